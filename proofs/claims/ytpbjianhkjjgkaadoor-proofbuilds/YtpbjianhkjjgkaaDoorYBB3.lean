/-
  The document's Build of items of the laws' keys.
-/
import Derived.Test.YtpbjianhkjjgkaaDoorZ21
import Derived.Test.YtpbjianhkjjgkaaDoorZ15
namespace Go.Proofs.YtpbjianhkjjgkaaDoor
open Go.RowKit

theorem SegG.only {α : Type} {Y : Lay α} {w w' : World} {A : Option Addr} {n : Nat} {l : List α} {S : Nat → Prop} (h : SegG Y w A n l) (hw : Only w w' S) (ha : 0 < n → ∀ a, A = some a → ¬ S a.block) : SegG Y w' A n l := by
  refine ⟨h.1, fun hn => ?_⟩
  obtain ⟨g, o, e, hc⟩ := h.2 hn
  exact ⟨g, o, e, fun j u hu => hw.cell (hc j u hu) (by exact ha hn ⟨g, o, none⟩ e)⟩
theorem OwnG.formsB {α : Type} {Y : Lay α} {w : World} {base : Nat} {e : TypeId} {v : Value} {l : List α} (h : OwnG Y w base e v l) : ∃ A c, v = .slice A l.length c ∧ SegG Y w A l.length l ∧ l.length ≤ c ∧ c ≤ maxLen ∧ ∀ a, A = some a → base ≤ a.block := by
  obtain ⟨A, c, rfl, hs, h1, h2⟩ := h.forms
  refine ⟨A, c, rfl, hs, h1, h2, fun a ha => ?_⟩
  rcases h.2 with ⟨e1, _⟩ | ⟨g, cap, cur, e1, hb, _⟩
  · injection e1 with e1
    rw [e1] at ha
    cases ha
  · injection e1 with e1
    rw [e1] at ha
    injection ha with ha
    rw [← ha]
    exact hb
theorem SegG.ltB {α : Type} {Y : Lay α} {w : World} {A : Option Addr} {n : Nat} {l : List α} (h : SegG Y w A n l) : 0 < n → ∀ a, A = some a → a.block < w.heap.size := by
  intro hn a ha
  obtain ⟨g, o, e, hc⟩ := h.2 hn
  rw [ha] at e
  injection e with e
  subst e
  have hz : (cellsG Y l)[0]? = some ((cellsG Y l)[0]'(by rw [cellsG_length, h.1]; exact Nat.mul_pos hn Y.pos)) := List.getElem?_eq_getElem _
  exact World.block_lt_of_cell? w _ (hc 0 _ hz)
theorem two_box (w : World) (a0 a1 a2 a3 c0 c1 c2 c3 : Value) (t u : TypeId) :
    Bx ((w.alloc (.cells #[a0, a1, a2, a3] t)).alloc (.cells #[c0, c1, c2, c3] u)) w.heap.size a0 a1 a2 a3 ∧
    Bx ((w.alloc (.cells #[a0, a1, a2, a3] t)).alloc (.cells #[c0, c1, c2, c3] u)) (w.heap.size + 1) c0 c1 c2 c3 ∧
    Below w.heap.size w ((w.alloc (.cells #[a0, a1, a2, a3] t)).alloc (.cells #[c0, c1, c2, c3] u)) ∧
    ((w.alloc (.cells #[a0, a1, a2, a3] t)).alloc (.cells #[c0, c1, c2, c3] u)).heap.size = w.heap.size + 2 := by
  have z1 : (w.alloc (.cells #[a0, a1, a2, a3] t)).heap.size = w.heap.size + 1 := by simp
  have h1 := Bx.new (w.alloc (.cells #[a0, a1, a2, a3] t)) c0 c1 c2 c3 u
  rw [z1] at h1
  exact ⟨(Bx.new w a0 a1 a2 a3 t).only (Only.alloc_ _ (.cells #[c0, c1, c2, c3] u) (fun _ => False)) id, h1, ((Below.refl w.heap.size w).alloc (Nat.le_refl _) _).alloc (by simp) _, by simp⟩

set_option maxRecDepth 8000 in
set_option maxHeartbeats 32000000 in
theorem rbuild_any (A : Option Addr) (n c : Nat) (S : List ItS) (m : List It) (K : ByteArray) (d : Nat) (w : World) (ha : SegG itLay w A n S) (hi : ItsAt w S m) (hm : Its m) (hrl : ∀ x ∈ m, x.2.length ≤ 100000) (hk : K.size ≤ 1000) (hs : StopAt (sumT K) m d) :
    Calls Tryd.prog 43 #[.slice A n c, .string K] w fun e w' => ∃ u, e = .returned u ∧ PfOwn w' w.heap.size u (bldP K m d) ∧ Below w.heap.size w w' := by
  obtain ⟨PF, hPF⟩ : ∃ PF, bldP K m d = PF := ⟨_, rfl⟩
  rw [hPF]
  have HPF := Lib.hid hPF
  clear hPF
  have hgm := Good.root hm.1 hm.2
  have hml := its_len hm
  have hd := stop_le hgm hs.1
  have H2 := Lib.hid (two_box w (.slice none 0 0) (.int .u8 0) (.string ⟨#[]⟩) (.slice none 0 0) (.slice none 0 0) (.int .u8 0) (.string ⟨#[]⟩) (.slice none 0 0) 67 67)
  have HA := Lib.hid (And.intro ha (And.intro ha.ltB hi))
  have HRL := Lib.hid hrl
  have kcv := fun W => Lib.run_convert_string_bytes (P := Tryd.prog) W 9 29 5 K Tryd.underlying9 Tryd.underlying29 Tryd.underlying5
  have hbld : bldP K m d = endP K (sidesI (sumT K) m d) (curI (sumT K) m d) := rfl
  rw [hbld] at HPF
  obtain ⟨T, hT⟩ : ∃ T, sumT K = T := ⟨_, rfl⟩
  have HTS := Lib.hid (show T.size = 32 by rw [← hT]; exact sumT_size K)
  have hT' : (⟨(sha K.data.toList).toArray⟩ : ByteArray) = T := hT
  rw [hT] at HPF hs
  have HT := Lib.hid hT'
  have HG := Lib.hid (fun e => curI_good (T := T) hgm e)
  have HS := Lib.hid hs
  have HC := Lib.hid (fun e => curI_len T m e)
  have HSUB := Lib.hid (fun e x => curI_sub (T := T) (m := m) e x)
  clear hbld hT hT' ha hi hrl hs hgm
  go_enter Tryd.func43, Tryd.ntmps43
  go_wp2_with fail
  obtain ⟨hq0, hq1, hbel, hz⟩ := H2.out
  obtain ⟨b0, hb0⟩ : ∃ b0, w.heap.size = b0 := ⟨_, rfl⟩
  rw [hb0] at hq0 hq1 hbel hz ⊢
  have HB0 := Lib.hid hb0
  clear H2 hb0
  generalize ((w.alloc (.cells #[.slice none 0 0, .int .u8 0, .string ⟨#[]⟩, .slice none 0 0] 67)).alloc (.cells #[.slice none 0 0, .int .u8 0, .string ⟨#[]⟩, .slice none 0 0] 67)) = wa at *
  have hb1 := bytesBelow wa 5 K
  have hsg := bytesSeg wa 5 K
  rw [hz] at hsg
  refine (rsum_any _ K.size _ K.data.toList _ hsg (by omega)).mono ?_
  rw [HT.out]
  rintro e w1 ⟨rfl, hb2⟩
  have hbw1 := Below.next' hb1 hb2 hb1.size
  have hq0 := hq0.below hbw1
  have hq1 := hq1.below hbw1
  have hbel := hbel.trans (hbw1.mono (by omega))
  have hz1 : b0 + 2 ≤ w1.heap.size := by have := hbw1.size; omega
  clear hb1 hb2 kcv hbw1 hsg hz
  go_wp2_with fail
  go_loopw [0, 7, 8] (fun l i _ w' => ∃ (e : Nat) (S' : List ItS) (A' : Option Addr) (n' c' : Nat) (sv : Value), e ≤ d ∧ i = .int .i64 (e : Int) ∧ l = .slice A' n' c' ∧ SegG itLay w' A' n' S' ∧ (0 < n' → ∀ a, A' = some a → a.block ≠ b0 ∧ a.block ≠ b0 + 1 ∧ sv.ownBlock ≠ some a.block) ∧ ItsAt w S' (curI T m e) ∧
      Bx w' b0 (.slice none 0 0) (.int .u8 0) (.string ⟨#[]⟩) (.slice none 0 0) ∧ Bx w' (b0 + 1) sv (.int .u8 0) (.string ⟨#[]⟩) (.slice none 0 0) ∧ OwnS w' (b0 + 2) 9 sv (sidesI T m e) ∧ Below b0 w w' ∧ b0 + 2 ≤ w'.heap.size) (fun _ i _ _ => d - (intOf i).toNat)
  case atStart =>
    refine ⟨0, S, A, n, c, _, by omega, rfl, rfl, HA.out.1.below (by rw [HB0.out]; exact hbel), fun hn a ha => ?_, HA.out.2.2, hq0, hq1, OwnG.nil _ _ _, hbel, hz1⟩
    have h1 := HA.out.2.1 hn a ha
    have h2 := HB0.out
    exact ⟨by omega, by omega, by show none ≠ some _; simp⟩
  case round =>
    clear hq0 hq1 hbel hz1
    obtain ⟨e, S', A', n', c', sv, he, rfl, rfl, hsg, hbk, hia, hq0, hq1, hos, hbel, hz⟩ := hrel
    rename World => wl
    have hsl := sidesI_len T m e
    have hnl : (curI T m e).length = n' := by rw [← hia.len, hsg.1]
    obtain ⟨As, cs, hse, _, _, _⟩ := hos.forms
    rw [hsl] at hse
    subst hse
    have hbW : Below w.heap.size w wl := by rw [HB0.out]; exact hbel
    have hn280 : n' ≤ 280 := by have := HC.out e; omega
    by_cases h2 : 2 ≤ (curI T m e).length
    · have hlt := stop_go HS.out he h2
      have hr := (HG.out e).room h2
      have hbF := bitF_lt2 T (e : Int)
      have hbit : bitF T (e : Int) = 0 ∨ bitF T (e : Int) = 1 := by omega
      have HSD := Lib.hid (sidesI_succ T m e)
      have HCU := Lib.hid (show curI T m (e + 1) = halfI (curI T m e) e (bitF T (e : Int)) from rfl)
      have HSI := Lib.hid (show sideI T m e = ⟨(tree (255 - e) (halfI (curI T m e) e (1 - bitF T (e : Int))) (e + 1)).dig.toArray⟩ from rfl)
      have HH := Lib.hid (fun (b : Nat) (W : World) (h : SegG itLay W A' n' S') => rhalf_any A' n' c' S' e b W h (by omega) hia.keys (by omega))
      have HDG := Lib.hid (fun (b : Nat) (B : Option Addr) (q r : Nat) (R : List ItS) (W : World) (h : SegG itLay W B q R) (h2 : ItsAt W R (halfI (curI T m e) e b)) =>
        rdigest_any (255 - e) (halfI (curI T m e) e b) (e + 1) B q r R W (by omega) ((HG.out e).half b) (by have h1 := HC.out e; have h2 : (halfI (curI T m e) e b).length ≤ (curI T m e).length := List.length_filter_le _ _; omega) (fun x hx => HRL.out x (HSUB.out e x ((mem_half x).1 hx).1)) h h2)
      rw [show (((e + 1 : Nat)) : Int) = (e : Int) + 1 by omega] at HDG
      have HIA := Lib.hid hia
      have hwr : IntKind.i64.wrap ((e : Int) + 1) = (e : Int) + 1 := IntWalk.i64_in _ (by omega)
      have d1 : decide ((1 : Int) < (n' : Int)) = true := decide_eq_true (by omega)
      have d2 : decide ((e : Int) < 256) = true := decide_eq_true (by omega)
      have HTZ := HTS.out
      have hwc0 : IntKind.i64.wrap 0 = 0 := IntWalk.i64_in _ (by omega)
      have hwc1 : IntKind.i64.wrap 1 = 1 := IntWalk.i64_in _ (by omega)
      have HSEP := Lib.hid hbk
      clear hbk
      obtain ⟨ds, hds⟩ : ∃ ds, sidesI T m e = ds := ⟨_, rfl⟩
      rw [hds] at hos HSD hsl
      clear hds hia hbF hnl h2
      rcases hbit with hbt | hbt
      · rw [hbt] at HCU HSI
        have hh0 := HH.out 1
        have hh1 := HH.out 0
        have hg0 := HDG.out 1
        rw [show ((1 : Nat) : Int) = 1 from rfl] at hh0
        rw [show ((0 : Nat) : Int) = 0 from rfl] at hh1
        have HH0 := Lib.hid hh0
        have HH1 := Lib.hid hh1
        have HG0 := Lib.hid hg0
        clear hh0 hh1 hg0 HH HDG
        go_wp2_with fail
        refine (rbit_any T (e : Int) _ (by omega) (by omega) (by omega)).mono ?_
        rw [hbt]
        clear hbt
        rintro e2 w2 ⟨rfl, rfl⟩
        have x0 := hq1.c0
        go_wp2
        rename World => wr
        refine wp_region_noPanic (wp_region_till (fun W' => W'.cell? ⟨b0 + 1, 0, none⟩ = some (.slice As e cs)) 13 (by kernel_rfl) ?_)
        have hD := belD wr 1
        have hq0 := hq0.below hD
        have hq1 := hq1.below hD
        have hos := hos.drewN 1
        have hsg := hsg.drewN 1
        have hbel := Below.drewN' hbel 1
        have hz : b0 + 2 ≤ (wr.drewN 1).heap.size := hz
        have x0 : (wr.drewN 1).cell? ⟨b0 + 1, 0, none⟩ = some (.slice As e cs) := x0
        change wpAnyT _ _ _ _ _ _ 14 _ _ (wr.drewN 1)
        clear hD hbW
        generalize wr.drewN 1 = w5 at *
        refine wpAnyT_take (i := 0) (v := .pointer (some ⟨b0 + 1, 0, none⟩)) rfl (by kernel_rfl) (fun _ _ _ h => h) x0 (Or.inl ⟨rfl, fun W' hW => by go_simp⟩) ?_
        refine wpAnyT_take (i := 1) (v := .slice As e cs) rfl (by kernel_rfl) (fun _ _ _ h => h) x0 (Or.inl ⟨rfl, fun W' hW => by go_simp⟩) ?_
        refine wpAnyT_take (i := 2) (v := .slice A' n' c') rfl (by kernel_rfl) (fun _ _ _ h => h) x0 (Or.inl ⟨rfl, fun W' hW => by go_simp⟩) ?_
        refine wpAnyT_take (i := 3) (v := .int .i64 (e : Int)) rfl (by kernel_rfl) (fun _ _ _ h => h) x0 (Or.inl ⟨rfl, fun W' hW => by go_simp⟩) ?_
        refine wpAnyT_take (i := 4) (v := .int .i64 0) rfl (by kernel_rfl) (fun _ _ _ h => h) x0 (Or.inl ⟨rfl, fun W' hW => by go_simp⟩) ?_
        refine wpAnyT_take (i := 5) (v := .int .i64 1) rfl (by kernel_rfl) (fun _ _ _ h => h) x0 (Or.inl ⟨rfl, fun W' hW => by go_simp⟩) ?_
        refine wpAnyT_take (i := 7) (v := .int .i64 (e : Int)) rfl (by kernel_rfl) (fun _ _ _ h => h) x0 (Or.inl ⟨rfl, fun W' hW => by go_simp⟩) ?_
        refine wpAnyT_take (i := 8) (v := .int .i64 ((e : Int) + 1)) rfl (by kernel_rfl) (fun _ _ _ h => h) x0 (Or.inl ⟨rfl, fun W' hW => by go_simp⟩) ?_
        refine wpAnyT_step 6 rfl (by decide +kernel) ?_
        go_wp2_with fail
        refine (HH0.out _ hsg).mono ?_
        rintro e6 w6 ⟨v6, rfl, ho6, hb6⟩
        obtain ⟨A6, c6, rfl, hs6, _, _⟩ := ho6.forms
        have hq0 := hq0.below hb6
        have hq1 := hq1.below hb6
        have hos := hos.below hb6
        have hsg := hsg.below hb6
        have hi6 := (HIA.out.below (show Below w.heap.size w w6 by rw [HB0.out]; exact hbel.trans (hb6.mono (by omega)))).half (d := e) (b := 1)
        have hbel := hbel.trans (hb6.mono (by omega))
        have hz : b0 + 2 ≤ w6.heap.size := by have := hb6.size; omega
        have x0 := hq1.c0
        clear ho6 hb6
        go_wp2_with fail
        refine ⟨.inr x0, ?_⟩
        refine wpAnyT_step 9 rfl (by decide +kernel) ?_
        go_wp2_with fail
        refine (HG0.out _ _ _ _ _ hs6 hi6).mono ?_
        rw [show (⟨(tree (255 - e) (halfI (curI T m e) e 1) (e + 1)).dig.toArray⟩ : ByteArray) = sideI T m e from HSI.out.symm]
        rintro e7 w7 ⟨rfl, hb7⟩
        have hq0 := hq0.below hb7
        have hq1 := hq1.below hb7
        have hos := hos.below hb7
        have hsg := hsg.below hb7
        have hbel := hbel.trans (hb7.mono (by omega))
        have hz : b0 + 2 ≤ w7.heap.size := by have := hb7.size; omega
        have x0 := hq1.c0
        clear hb7 hs6 hi6 HSI
        generalize sideI T m e = D at *
        go_wp2_with fail
        refine ⟨.inr x0, ?_⟩
        refine wpAnyT_step 10 rfl (by decide +kernel) ?_
        go_wp2_with fail
        have hal := Only.alloc_ w7 (.cells #[.string D] 9) (fun _ => False)
        refine ⟨.inr (hal.cell x0 id), ?_⟩
        have hos7 := hos.only hal (fun _ _ => id)
        refine wpAnyT_step 11 rfl (by decide +kernel) ?_
        refine wpList_append_G _ rfl (.tmp 25) (.tmp 34) _ _ _ _ strT rfl (b0 + 2) (.slice As e cs) ds rfl hos7 _ 1 1 [D] rfl (SegG.newAt _ _ _ _ _ _ rfl rfl rfl) (by rw [hsl]; omega) (by simp; omega) ?_
        intro v8 w8 hv8 hg8 hat8
        have hon : Only w7 w8 (fun k => b0 + 2 ≤ k ∧ some k = (Value.slice As e cs).ownBlock) := (hal.mono (fun _ _ h => h.elim)).trans (Only.of_grown (S := fun k => b0 + 2 ≤ k ∧ some k = (Value.slice As e cs).ownBlock) hg8 (fun k hk => ⟨(hos7.lt k hk).1, hk.symm⟩)) (fun _ _ h => h)
        have hq0 := hq0.only hon (fun h => by have := h.1; omega)
        have hq1 := hq1.only hon (fun h => by have := h.1; omega)
        have hbel := hon.below hbel (fun k hk => by have := hk.1; omega) (by omega)
        have hz : b0 + 2 ≤ w8.heap.size := by have := hon.size; omega
        have x0 := hq1.c0
        have xf := hq1.fr 0
        have hsg := hsg.only hon (fun hn a ha => fun hh => (HSEP.out hn a ha).2.2 hh.2.symm)
        clear hg8 hat8 hos7 hos hon hal
        obtain ⟨A8, c8, hve, _, _, _⟩ := hv8.forms
        have hd8 : (ds ++ [D]).length = e + 1 := by rw [List.length_append, hsl]; rfl
        rw [hd8] at hve
        subst hve
        go_wp2_with fail
        refine ⟨.inr x0, ?_⟩
        refine wpAnyT_step 12 rfl (by decide +kernel) ?_
        go_wp2_with fail
        refine ⟨.inr x0, ?_⟩
        refine wpAnyT_step 13 rfl (by decide +kernel) ?_
        go_wp2_with fail
        refine ⟨.inl trivial, ?_⟩
        refine wpAnyT_done (by decide +kernel) (NoPanic.normal ?_)
        have hs1 := only_setB w8 ⟨b0 + 1, 0, none⟩ (.slice A8 (e + 1) c8)
        have hq1 := hq1.set0 (.slice A8 (e + 1) c8)
        have hq0 := hq0.only hs1 (by show ¬ b0 = b0 + 1; omega)
        have hv8 := hv8.only hs1 (fun k hk (h : k = b0 + 1) => by have := (hv8.lt k hk).1; omega)
        have hsg := hsg.only hs1 (fun hn a ha (h : a.block = b0 + 1) => (HSEP.out hn a ha).2.1 h)
        have hbel := hs1.below hbel (fun k (h : k = b0 + 1) => by omega) (by omega)
        have hz : b0 + 2 ≤ (w8.setCell ⟨b0 + 1, 0, none⟩ (.slice A8 (e + 1) c8)).heap.size := by have := hs1.size; omega
        clear x0 xf hs1
        generalize w8.setCell ⟨b0 + 1, 0, none⟩ (.slice A8 (e + 1) c8) = w9 at *
        go_wp2_with fail
        refine (HH1.out _ hsg).mono ?_
        rintro e10 w10 ⟨v10, rfl, ho10, hb10⟩
        obtain ⟨A10, c10, rfl, hs10, _, _, hbk10⟩ := ho10.formsB
        have h8lt := fun k hk => hv8.lt k hk
        have hz10 := hb10.size
        go_wp2
        go_roundw
        case rel =>
          refine ⟨e + 1, _, A10, _, c10, _, hlt, by go_num, rfl, hs10, fun hn a ha => ?_, ?_, hq0.below hb10, hq1.below hb10, by rw [HSD.out]; exact hv8.below hb10, hbel.trans (hb10.mono (by omega)), by omega⟩
          · have h1 := hbk10 a ha
            refine ⟨by omega, by omega, fun h => ?_⟩
            have := (h8lt _ h).2
            omega
          · rw [HCU.out]
            exact HIA.out.half
        case measure => simp [intOf]; omega
      · rw [hbt] at HCU HSI
        have hh0 := HH.out 0
        have hh1 := HH.out 1
        have hg0 := HDG.out 0
        rw [show ((0 : Nat) : Int) = 0 from rfl] at hh0
        rw [show ((1 : Nat) : Int) = 1 from rfl] at hh1
        have HH0 := Lib.hid hh0
        have HH1 := Lib.hid hh1
        have HG0 := Lib.hid hg0
        clear hh0 hh1 hg0 HH HDG
        go_wp2_with fail
        refine (rbit_any T (e : Int) _ (by omega) (by omega) (by omega)).mono ?_
        rw [hbt]
        clear hbt
        rintro e2 w2 ⟨rfl, rfl⟩
        have x0 := hq1.c0
        go_wp2
        rename World => wr
        refine wp_region_noPanic (wp_region_till (fun W' => W'.cell? ⟨b0 + 1, 0, none⟩ = some (.slice As e cs)) 13 (by kernel_rfl) ?_)
        have hD := belD wr 1
        have hq0 := hq0.below hD
        have hq1 := hq1.below hD
        have hos := hos.drewN 1
        have hsg := hsg.drewN 1
        have hbel := Below.drewN' hbel 1
        have hz : b0 + 2 ≤ (wr.drewN 1).heap.size := hz
        have x0 : (wr.drewN 1).cell? ⟨b0 + 1, 0, none⟩ = some (.slice As e cs) := x0
        change wpAnyT _ _ _ _ _ _ 14 _ _ (wr.drewN 1)
        clear hD hbW
        generalize wr.drewN 1 = w5 at *
        refine wpAnyT_take (i := 0) (v := .pointer (some ⟨b0 + 1, 0, none⟩)) rfl (by kernel_rfl) (fun _ _ _ h => h) x0 (Or.inl ⟨rfl, fun W' hW => by go_simp⟩) ?_
        refine wpAnyT_take (i := 1) (v := .slice As e cs) rfl (by kernel_rfl) (fun _ _ _ h => h) x0 (Or.inl ⟨rfl, fun W' hW => by go_simp⟩) ?_
        refine wpAnyT_take (i := 2) (v := .slice A' n' c') rfl (by kernel_rfl) (fun _ _ _ h => h) x0 (Or.inl ⟨rfl, fun W' hW => by go_simp⟩) ?_
        refine wpAnyT_take (i := 3) (v := .int .i64 (e : Int)) rfl (by kernel_rfl) (fun _ _ _ h => h) x0 (Or.inl ⟨rfl, fun W' hW => by go_simp⟩) ?_
        refine wpAnyT_take (i := 4) (v := .int .i64 1) rfl (by kernel_rfl) (fun _ _ _ h => h) x0 (Or.inl ⟨rfl, fun W' hW => by go_simp⟩) ?_
        refine wpAnyT_take (i := 5) (v := .int .i64 0) rfl (by kernel_rfl) (fun _ _ _ h => h) x0 (Or.inl ⟨rfl, fun W' hW => by go_simp⟩) ?_
        refine wpAnyT_take (i := 7) (v := .int .i64 (e : Int)) rfl (by kernel_rfl) (fun _ _ _ h => h) x0 (Or.inl ⟨rfl, fun W' hW => by go_simp⟩) ?_
        refine wpAnyT_take (i := 8) (v := .int .i64 ((e : Int) + 1)) rfl (by kernel_rfl) (fun _ _ _ h => h) x0 (Or.inl ⟨rfl, fun W' hW => by go_simp⟩) ?_
        refine wpAnyT_step 6 rfl (by decide +kernel) ?_
        go_wp2_with fail
        refine (HH0.out _ hsg).mono ?_
        rintro e6 w6 ⟨v6, rfl, ho6, hb6⟩
        obtain ⟨A6, c6, rfl, hs6, _, _⟩ := ho6.forms
        have hq0 := hq0.below hb6
        have hq1 := hq1.below hb6
        have hos := hos.below hb6
        have hsg := hsg.below hb6
        have hi6 := (HIA.out.below (show Below w.heap.size w w6 by rw [HB0.out]; exact hbel.trans (hb6.mono (by omega)))).half (d := e) (b := 0)
        have hbel := hbel.trans (hb6.mono (by omega))
        have hz : b0 + 2 ≤ w6.heap.size := by have := hb6.size; omega
        have x0 := hq1.c0
        clear ho6 hb6
        go_wp2_with fail
        refine ⟨.inr x0, ?_⟩
        refine wpAnyT_step 9 rfl (by decide +kernel) ?_
        go_wp2_with fail
        refine (HG0.out _ _ _ _ _ hs6 hi6).mono ?_
        rw [show (⟨(tree (255 - e) (halfI (curI T m e) e 0) (e + 1)).dig.toArray⟩ : ByteArray) = sideI T m e from HSI.out.symm]
        rintro e7 w7 ⟨rfl, hb7⟩
        have hq0 := hq0.below hb7
        have hq1 := hq1.below hb7
        have hos := hos.below hb7
        have hsg := hsg.below hb7
        have hbel := hbel.trans (hb7.mono (by omega))
        have hz : b0 + 2 ≤ w7.heap.size := by have := hb7.size; omega
        have x0 := hq1.c0
        clear hb7 hs6 hi6 HSI
        generalize sideI T m e = D at *
        go_wp2_with fail
        refine ⟨.inr x0, ?_⟩
        refine wpAnyT_step 10 rfl (by decide +kernel) ?_
        go_wp2_with fail
        have hal := Only.alloc_ w7 (.cells #[.string D] 9) (fun _ => False)
        refine ⟨.inr (hal.cell x0 id), ?_⟩
        have hos7 := hos.only hal (fun _ _ => id)
        refine wpAnyT_step 11 rfl (by decide +kernel) ?_
        refine wpList_append_G _ rfl (.tmp 25) (.tmp 34) _ _ _ _ strT rfl (b0 + 2) (.slice As e cs) ds rfl hos7 _ 1 1 [D] rfl (SegG.newAt _ _ _ _ _ _ rfl rfl rfl) (by rw [hsl]; omega) (by simp; omega) ?_
        intro v8 w8 hv8 hg8 hat8
        have hon : Only w7 w8 (fun k => b0 + 2 ≤ k ∧ some k = (Value.slice As e cs).ownBlock) := (hal.mono (fun _ _ h => h.elim)).trans (Only.of_grown (S := fun k => b0 + 2 ≤ k ∧ some k = (Value.slice As e cs).ownBlock) hg8 (fun k hk => ⟨(hos7.lt k hk).1, hk.symm⟩)) (fun _ _ h => h)
        have hq0 := hq0.only hon (fun h => by have := h.1; omega)
        have hq1 := hq1.only hon (fun h => by have := h.1; omega)
        have hbel := hon.below hbel (fun k hk => by have := hk.1; omega) (by omega)
        have hz : b0 + 2 ≤ w8.heap.size := by have := hon.size; omega
        have x0 := hq1.c0
        have xf := hq1.fr 0
        have hsg := hsg.only hon (fun hn a ha => fun hh => (HSEP.out hn a ha).2.2 hh.2.symm)
        clear hg8 hat8 hos7 hos hon hal
        obtain ⟨A8, c8, hve, _, _, _⟩ := hv8.forms
        have hd8 : (ds ++ [D]).length = e + 1 := by rw [List.length_append, hsl]; rfl
        rw [hd8] at hve
        subst hve
        go_wp2_with fail
        refine ⟨.inr x0, ?_⟩
        refine wpAnyT_step 12 rfl (by decide +kernel) ?_
        go_wp2_with fail
        refine ⟨.inr x0, ?_⟩
        refine wpAnyT_step 13 rfl (by decide +kernel) ?_
        go_wp2_with fail
        refine ⟨.inl trivial, ?_⟩
        refine wpAnyT_done (by decide +kernel) (NoPanic.normal ?_)
        have hs1 := only_setB w8 ⟨b0 + 1, 0, none⟩ (.slice A8 (e + 1) c8)
        have hq1 := hq1.set0 (.slice A8 (e + 1) c8)
        have hq0 := hq0.only hs1 (by show ¬ b0 = b0 + 1; omega)
        have hv8 := hv8.only hs1 (fun k hk (h : k = b0 + 1) => by have := (hv8.lt k hk).1; omega)
        have hsg := hsg.only hs1 (fun hn a ha (h : a.block = b0 + 1) => (HSEP.out hn a ha).2.1 h)
        have hbel := hs1.below hbel (fun k (h : k = b0 + 1) => by omega) (by omega)
        have hz : b0 + 2 ≤ (w8.setCell ⟨b0 + 1, 0, none⟩ (.slice A8 (e + 1) c8)).heap.size := by have := hs1.size; omega
        clear x0 xf hs1
        generalize w8.setCell ⟨b0 + 1, 0, none⟩ (.slice A8 (e + 1) c8) = w9 at *
        go_wp2_with fail
        refine (HH1.out _ hsg).mono ?_
        rintro e10 w10 ⟨v10, rfl, ho10, hb10⟩
        obtain ⟨A10, c10, rfl, hs10, _, _, hbk10⟩ := ho10.formsB
        have h8lt := fun k hk => hv8.lt k hk
        have hz10 := hb10.size
        go_wp2
        go_roundw
        case rel =>
          refine ⟨e + 1, _, A10, _, c10, _, hlt, by go_num, rfl, hs10, fun hn a ha => ?_, ?_, hq0.below hb10, hq1.below hb10, by rw [HSD.out]; exact hv8.below hb10, hbel.trans (hb10.mono (by omega)), by omega⟩
          · have h1 := hbk10 a ha
            refine ⟨by omega, by omega, fun h => ?_⟩
            have := (h8lt _ h).2
            omega
          · rw [HCU.out]
            exact HIA.out.half
        case measure => simp [intOf]; omega
    · have hed := stop_end HS.out he (by omega)
      subst hed
      have d1 : decide ((1 : Int) < (n' : Int)) = false := decide_eq_false (by omega)
      obtain ⟨r, hr⟩ : ∃ r, curI T m e = r := ⟨_, rfl⟩
      have hrow : ∀ x ∈ r, x.2.length ≤ 100000 := fun x hx => HRL.out x (HSUB.out e x (by rw [hr]; exact hx))
      rw [hr] at HPF hnl hia h2
      obtain ⟨ds, hds⟩ : ∃ ds, sidesI T m e = ds := ⟨_, rfl⟩
      rw [hds] at hos HPF hsl
      clear hds hr HG HS HC HSUB HRL HA
      rcases r with _ | ⟨x, _ | ⟨y, r⟩⟩
      · obtain rfl : n' = 0 := hnl.symm
        obtain rfl : PF = ⟨ds, 0, ⟨#[]⟩, []⟩ := HPF.out.symm
        obtain ⟨x0, x1, x2, x3, xf⟩ := hq1
        obtain ⟨y0, y1, y2, y3, yf⟩ := hq0
        have yf0 := yf 0
        have yf1 := yf 1
        have yf2 := yf 2
        have yf3 := yf 3
        have hq0 : Bx wl b0 _ _ _ _ := ⟨y0, y1, y2, y3, yf⟩
        clear xf yf hia
        obtain ⟨hf, hfo⟩ := hq0.set4 (.slice As e cs) (.int .u8 0) (.string ⟨#[]⟩) (.slice none 0 0)
        go_wp2
        refine bodyPost_ret (v := .agg #[.slice As e cs, .int .u8 0, .string ⟨#[]⟩, .slice none 0 0]) (by simp [results, Tryd.results43, go_sem, hf.c0, hf.c1, hf.c2, hf.c3]) rfl ⟨_, rfl, ⟨_, _, rfl, ?_, Own.nil _ _ _⟩, ?_⟩
        · refine (hos.only hfo ?_).mono (by have := HB0.out; omega)
          intro k hk h; have := (hos.lt k hk).1; omega
        · rw [HB0.out]
          exact hfo.below hbel (fun k h => by omega) (by omega)
      · obtain rfl : n' = 1 := hnl.symm
        obtain ⟨s, rfl⟩ : ∃ s, S' = [s] := by
          rcases S' with _ | ⟨s, _ | ⟨t, S'⟩⟩
          · exact hia.elim
          · exact ⟨s, rfl⟩
          · exact hia.2.elim
        obtain ⟨g, o, rfl, hc⟩ := hsg.at_ (k := 0) (by omega)
        have c0 := hc 0 (.string s.s) rfl
        have c1 := hc 1 (.slice s.A s.n s.c) rfl
        obtain ⟨hsk, hss, hsn, hsm⟩ := hia.1
        have hg := hbk (by omega) _ rfl
        have hg1 : g ≠ b0 + 1 := hg.2.1
        have hg0 : g ≠ b0 := hg.1
        rw [hsk] at c0
        simp only [Nat.zero_mul, Nat.add_zero] at c0 c1
        have hrl := hrow x (List.mem_cons_self ..)
        obtain ⟨u, l⟩ := x
        obtain ⟨es, eA, en, ec⟩ := s
        dsimp only at *
        have hln := hss.1
        have hssW := hss.below hbW
        clear hc hsg hbk hg hsk hrow hia hss
        have hke : PF = if keyOf u = K then ⟨ds, 1, ⟨#[]⟩, l⟩ else ⟨ds, 2, keyOf u, l⟩ := HPF.out.symm
        obtain ⟨KU, hKU⟩ : ∃ KU, keyOf u = KU := ⟨_, rfl⟩
        rw [hKU] at hke c0
        clear hKU HPF
        have HKE := Lib.hid hke
        clear hke
        go_wp2_with fail
        refine (join_any eA none en 0 ec 0 l [] _ hssW (Seg.nil _ _) (by omega)).mono ?_
        rw [List.append_nil]
        rintro e6 w6 ⟨rv, rfl, hro, hb6⟩
        obtain ⟨Ar, cr, rfl, _, _, _⟩ := hro.forms
        rw [hln] at hro ⊢
        have hq0 := hq0.below hb6
        have hq1 := hq1.below hb6
        have hos := hos.below hb6
        have c0 := cell_below hb6 c0
        have hbel := hbel.trans (hb6.mono (by omega))
        have hz6 := hb6.size
        have hro := hro.mono (b := b0 + 2) (by omega)
        clear hb6 hssW c1 hbW
        obtain ⟨x0, x1, x2, x3, xf⟩ := hq1
        have xf1 := xf 1
        have xf2 := xf 2
        have xf3 := xf 3
        have hq1 : Bx w6 (b0 + 1) _ _ _ _ := ⟨x0, x1, x2, x3, xf⟩
        obtain ⟨y0, y1, y2, y3, yf⟩ := hq0
        have yf0 := yf 0
        have yf1 := yf 1
        have yf2 := yf 2
        have yf3 := yf 3
        have hq0 : Bx w6 b0 _ _ _ _ := ⟨y0, y1, y2, y3, yf⟩
        clear xf yf
        have hs1 := (only_setB w6 ⟨b0 + 1, 3, none⟩ (.slice Ar en cr)).trans (only_setB (w6.setCell ⟨b0 + 1, 3, none⟩ (.slice Ar en cr)) ⟨b0 + 1, 1, none⟩ (.int .u8 1)) (fun _ _ h => h)
        by_cases hkk : KU = K
        · have hqk : (KU.toList == K.toList) = true := by rw [hkk]; simp
          have hke := HKE.out
          rw [if_pos hkk] at hke
          subst hke
          clear hkk HKE
          obtain ⟨hf, hfo⟩ := (hq0.only hs1 (by show ¬ b0 = b0 + 1; omega)).set4 (.slice As e cs) (.int .u8 1) (.string ⟨#[]⟩) (.slice Ar en cr)
          go_wp2
          refine bodyPost_ret (v := .agg #[.slice As e cs, .int .u8 1, .string ⟨#[]⟩, .slice Ar en cr]) (by simp [results, Tryd.results43, go_sem, hf.c0, hf.c1, hf.c2, hf.c3]) rfl ⟨_, rfl, ⟨_, _, rfl, ?_, ?_⟩, ?_⟩
          · refine ((hos.only hs1 ?_).only hfo ?_).mono (by have := HB0.out; omega)
            · intro k hk (h : k = b0 + 1); have := (hos.lt k hk).1; omega
            · intro k hk h; have := (hos.lt k hk).1; omega
          · refine ((hro.only hs1 ?_).only hfo ?_).mono (by have := HB0.out; omega)
            · intro k hk (h : k = b0 + 1); have := (hro.lt k hk).1; omega
            · intro k hk h; have := (hro.lt k hk).1; omega
          · rw [HB0.out]
            exact hfo.below (hs1.below hbel (fun k (h : k = b0 + 1) => by omega) (by omega)) (fun k h => by omega) (by have := hs1.size; omega)
        · have hqk : (KU.toList == K.toList) = false := by
            rw [beq_eq_false_iff_ne, ne_eq, toList_inj]
            exact hkk
          have hke := HKE.out
          rw [if_neg hkk] at hke
          subst hke
          clear hkk HKE
          have hq1 := (hq1.set3 (.slice Ar en cr)).set1 (.int .u8 1)
          have hq0 := hq0.only hs1 (by show ¬ b0 = b0 + 1; omega)
          have hos := hos.only hs1 (fun k hk (h : k = b0 + 1) => by have := (hos.lt k hk).1; omega)
          have hro := hro.only hs1 (fun k hk (h : k = b0 + 1) => by have := (hro.lt k hk).1; omega)
          have c0s := hs1.cell c0 (by show ¬ g = b0 + 1; exact hg1)
          have hbel := hs1.below hbel (fun k (h : k = b0 + 1) => by omega) (by omega)
          have hz9 : b0 + 2 ≤ ((w6.setCell ⟨b0 + 1, 3, none⟩ (.slice Ar en cr)).setCell ⟨b0 + 1, 1, none⟩ (.int .u8 1)).heap.size := by have := hs1.size; omega
          have HALL := Lib.hid (And.intro hq1 (And.intro hq0 (And.intro hos (And.intro hro (And.intro hbel hz9)))))
          clear hq1 hq0 hos hro hbel hz9 hs1
          go_wp2
          obtain ⟨hq1, hq0, hos, hro, hbel, hz9⟩ := HALL.out
          clear HALL x0 x1 x2 x3 xf1 xf2 xf3 y0 y1 y2 y3 yf0 yf1 yf2 yf3 c0
          generalize (w6.setCell ⟨b0 + 1, 3, none⟩ (.slice Ar en cr)).setCell ⟨b0 + 1, 1, none⟩ (.int .u8 1) = w7 at *
          obtain ⟨x0, x1, x2, x3, xf⟩ := hq1
          have xf1 := xf 1
          have xf2 := xf 2
          obtain ⟨y0, y1, y2, y3, yf⟩ := hq0
          have yf0 := yf 0
          have yf1 := yf 1
          have yf2 := yf 2
          have yf3 := yf 3
          have hq0 : Bx w7 b0 _ _ _ _ := ⟨y0, y1, y2, y3, yf⟩
          clear xf yf
          have hs1 := (only_setB w7 ⟨b0 + 1, 1, none⟩ (.int .u8 2)).trans (only_setB (w7.setCell ⟨b0 + 1, 1, none⟩ (.int .u8 2)) ⟨b0 + 1, 2, none⟩ (.string KU)) (fun _ _ h => h)
          obtain ⟨hf, hfo⟩ := (hq0.only hs1 (by show ¬ b0 = b0 + 1; omega)).set4 (.slice As e cs) (.int .u8 2) (.string KU) (.slice Ar en cr)
          refine wp_region_noPanic (wp_region_till (fun W' => W'.cell? ⟨g, o, none⟩ = some (.string KU)) 7 (by kernel_rfl) ?_)
          have hD := belD w7 1
          have c0s := cell_below hD c0s
          have hq0 := hq0.below hD
          have hos := hos.drewN 1
          have hro := hro.drewN 1
          have hbel := Below.drewN' hbel 1
          have x0 := cell_below hD x0
          have x1 := cell_below hD x1
          have x2 := cell_below hD x2
          have x3 := cell_below hD x3
          have xf1 : (w7.drewN 1).frozen? ⟨b0 + 1, 1, none⟩ = false := xf1
          have xf2 : (w7.drewN 1).frozen? ⟨b0 + 1, 2, none⟩ = false := xf2
          have y0 := cell_below hD y0
          have y1 := cell_below hD y1
          have y2 := cell_below hD y2
          have y3 := cell_below hD y3
          have yf0 : (w7.drewN 1).frozen? ⟨b0, 0, none⟩ = false := yf0
          have yf1 : (w7.drewN 1).frozen? ⟨b0, 1, none⟩ = false := yf1
          have yf2 : (w7.drewN 1).frozen? ⟨b0, 2, none⟩ = false := yf2
          have yf3 : (w7.drewN 1).frozen? ⟨b0, 3, none⟩ = false := yf3
          have hz9 : b0 + 2 ≤ (w7.drewN 1).heap.size := hz9
          change wpAnyT _ _ _ _ _ _ 8 _ _ (w7.drewN 1)
          clear hD hs1 hf hfo
          generalize w7.drewN 1 = w8 at *
          have hs1 := (only_setB w8 ⟨b0 + 1, 1, none⟩ (.int .u8 2)).trans (only_setB (w8.setCell ⟨b0 + 1, 1, none⟩ (.int .u8 2)) ⟨b0 + 1, 2, none⟩ (.string KU)) (fun _ _ h => h)
          obtain ⟨hf, hfo⟩ := (hq0.only hs1 (by show ¬ b0 = b0 + 1; omega)).set4 (.slice As e cs) (.int .u8 2) (.string KU) (.slice Ar en cr)
          refine wpAnyT_take (i := 0) (v := .slice (some ⟨g, o, none⟩) 1 c') rfl (by kernel_rfl) (fun _ _ _ h => h) c0s (Or.inl ⟨rfl, fun W' hW => by go_simp⟩) ?_
          refine wpAnyT_take (i := 1) (v := .pointer (some ⟨g, o, none⟩)) rfl (by kernel_rfl) (fun _ _ _ h => h) c0s (Or.inl ⟨rfl, fun W' hW => by go_simp⟩) ?_
          refine wpAnyT_take (i := 2) (v := .pointer (some ⟨g, o, none⟩)) rfl (by kernel_rfl) (fun _ _ _ h => h) c0s (Or.inl ⟨rfl, fun W' hW => by go_simp⟩) ?_
          refine wpAnyT_take (i := 3) (v := .string KU) rfl (by kernel_rfl) (fun _ _ _ h => h) c0s (Or.inl ⟨rfl, fun W' hW => by go_simp⟩) ?_
          refine wpAnyT_take (i := 4) (v := .pointer (some ⟨b0 + 1, 1, none⟩)) rfl (by kernel_rfl) (fun _ _ _ h => h) c0s (Or.inl ⟨rfl, fun W' hW => by go_simp⟩) ?_
          refine wpAnyT_step 5 rfl (by decide +kernel) ?_
          go_wp2_with fail
          refine wpAnyT_step 6 rfl (by decide +kernel) ?_
          go_wp2_with fail
          refine ⟨.inr ((only_setB w8 ⟨b0 + 1, 1, none⟩ (.int .u8 2)).cell c0s (by show ¬ g = b0 + 1; exact hg1)), ?_⟩
          refine wpAnyT_step 7 rfl (by decide +kernel) ?_
          go_wp2_with fail
          first
            | refine wpAnyT_done (by decide +kernel) (NoPanic.normal ?_)
            | refine ⟨.inl trivial, wpAnyT_done (by decide +kernel) (NoPanic.normal ?_)⟩
          go_wp2
          refine bodyPost_ret (v := .agg #[.slice As e cs, .int .u8 2, .string KU, .slice Ar en cr]) (by simp [results, Tryd.results43, go_sem, hf.c0, hf.c1, hf.c2, hf.c3]) rfl ⟨_, rfl, ⟨_, _, rfl, ?_, ?_⟩, ?_⟩
          · refine ((hos.only hs1 ?_).only hfo ?_).mono (by have := HB0.out; omega)
            · intro k hk (h : k = b0 + 1); have := (hos.lt k hk).1; omega
            · intro k hk h; have := (hos.lt k hk).1; omega
          · refine ((hro.only hs1 ?_).only hfo ?_).mono (by have := HB0.out; omega)
            · intro k hk (h : k = b0 + 1); have := (hro.lt k hk).1; omega
            · intro k hk h; have := (hro.lt k hk).1; omega
          · rw [HB0.out]
            exact hfo.below (hs1.below hbel (fun k (h : k = b0 + 1) => by omega) (by omega)) (fun k h => by omega) (by have := hs1.size; omega)
      · simp at h2

end Go.Proofs.YtpbjianhkjjgkaaDoor
