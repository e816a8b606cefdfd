/-
  Texts of one claim, joined.
-/
import Derived.Test.YtpbjianhkjjgkaaDoorZ15
import Derived.Test.YtpbjianhkjjgkaaDoorZ09
namespace Go.Proofs.YtpbjianhkjjgkaaDoor
open Go.RowKit

def geK (K s : ByteArray) : Bool := !Op.bytesLess s.toList K.toList
def putP (K : ByteArray) (e0 : ItS) (p : List ItS × Bool) (s : ItS) : List ItS × Bool :=
  if p.2 = false ∧ geK K s.s = true then (if s.s ≠ K then p.1 ++ [e0] ++ [s] else p.1 ++ [e0], true) else (if s.s ≠ K then p.1 ++ [s] else p.1, p.2)
def putF (K : ByteArray) (e0 : ItS) (S : List ItS) : List ItS × Bool := S.foldl (putP K e0) ([], false)
theorem putF_succ (K : ByteArray) (e0 : ItS) (S : List ItS) (k : Nat) (hk : k < S.length) : putF K e0 (S.take (k + 1)) = putP K e0 (putF K e0 (S.take k)) S[k] := by
  unfold putF
  rw [List.take_add_one, List.getElem?_eq_getElem hk, Option.toList_some, List.foldl_append]
  rfl
def putEnd (e0 : ItS) (p : List ItS × Bool) : List ItS := if p.2 = true then p.1 else p.1 ++ [e0]
def NewAt (w : World) (base : Nat) (v : Value) (K : ByteArray) (l : List UInt8) (e0 : ItS) : Prop := e0.s = K ∧ BsAt w base v ⟨e0.A, e0.n, e0.c⟩ l
theorem NewAt.step {w w' : World} {base : Nat} {v v' : Value} {K : ByteArray} {l : List UInt8} {e0 : ItS} {o : Obj} (h : NewAt w base v K l e0) (hg : (w.alloc o).grownBy w' v.ownBlock) (hv : v'.ownBlock = v.ownBlock ∨ v'.ownBlock = some (w.alloc o).heap.size) : NewAt w' base v' K l e0 := by
  obtain ⟨h0, h1, h2, h3, h4⟩ := h
  have hon : Only (w.alloc o) w' (fun k => v.ownBlock = some k) := Only.of_grown hg fun k hk => hk
  refine ⟨h0, (h1.alloc o).only hon fun hn a ha => (h4 hn a ha).1, h2, h3, fun hn a ha => ⟨fun e => ?_, (h4 hn a ha).2⟩⟩
  rcases hv with hv | hv
  · exact (h4 hn a ha).1 (by rw [← hv]; exact e)
  · rw [hv] at e
    injection e with e
    have := h1.lt hn a ha
    have hz : (w.alloc o).heap.size = w.heap.size + 1 := by simp
    omega

set_option maxHeartbeats 8000000 in
theorem rput_any (A : Option Addr) (n c : Nat) (S : List ItS) (K : ByteArray) (B : Option Addr) (q r : Nat) (l : List UInt8) (w : World) (ha : SegG itLay w A n S) (hl : Seg w B q l) (hn : n ≤ 100000) (hq : q ≤ 100000) :
    Calls Tryd.prog 62 #[.slice A n c, .string K, .slice B q r] w fun e w' => ∃ v e0, e = .returned v ∧ NewAt w' w.heap.size v K l e0 ∧ OwnI w' w.heap.size v (putEnd e0 (putF K e0 S)) ∧ Below w.heap.size w w' := by
  have hsl := ha.1
  have HJ := Lib.hid (show ∀ W, Below w.heap.size w W → Calls Tryd.prog 46 #[.slice B q r, .slice none 0 0] W (fun e w' => ∃ v, e = .returned v ∧ Own w' W.heap.size 5 v l ∧ Below W.heap.size W w') from fun W h => by
    have := join_any B none q 0 r 0 l [] W (hl.below h) (Seg.nil W none) (by omega)
    rw [List.append_nil] at this
    exact this)
  have hql := hl.1
  go_enter Tryd.func62, Tryd.ntmps62
  go_wp2_with fail
  go_loopw [7, 8, 9] (fun v b i w' => ∃ k : Nat, k ≤ n ∧ i = .int .i64 k ∧ Below w.heap.size w w' ∧
      ((b = .bool false ∧ ∃ D, OwnI w' w.heap.size v D ∧ D.length ≤ k ∧ ∀ e0, putF K e0 (S.take k) = (D, false)) ∨
       (b = .bool true ∧ ∃ e0 D, NewAt w' w.heap.size v K l e0 ∧ OwnI w' w.heap.size v D ∧ D.length ≤ 2 * k ∧ putF K e0 (S.take k) = (D, true)))) (fun _ _ i _ => n - (intOf i).toNat)
  case atStart => exact ⟨0, by omega, rfl, Below.refl _ _, .inl ⟨rfl, [], OwnG.nil _ _ _, by simp, fun _ => rfl⟩⟩
  case round =>
    obtain ⟨k, hk, rfl, hb, hD⟩ := hrel
    rename World => wr
    by_cases hlt : k < n
    · have hst := fun e0 => putF_succ K e0 S k (by omega)
      obtain ⟨g, o, rfl, hc0⟩ := ha.at_ hlt
      obtain ⟨e, he⟩ : ∃ e, S[k]'(by omega) = e := ⟨_, rfl⟩
      have HC := Lib.hid (show ∀ W, Below w.heap.size w W → W.cell? ⟨g, o + k * 2, none⟩ = some (.string e.s) ∧ W.cell? ⟨g, o + k * 2 + 1, none⟩ = some (.slice e.A e.n e.c) from fun W hW => by
        obtain ⟨g', o', e', hc⟩ := (ha.below hW).at_ hlt
        injection e' with e'
        injection e' with e1 e2
        subst e1 e2
        have x0 := hc 0 (.string e.s) (by rw [he]; rfl)
        have x1 := hc 1 (.slice e.A e.n e.c) (by rw [he]; rfl)
        rw [show itLay.z = 2 from rfl] at x0 x1
        rw [Nat.add_zero] at x0
        exact ⟨x0, x1⟩)
      rw [he] at hst
      have HST := Lib.hid hst
      obtain ⟨x0, x1⟩ := HC.out wr hb
      obtain ⟨es, eA, en, ec⟩ := e
      dsimp only at x0 x1 HST HC
      clear hc0 ha hl hst he hsl
      have HB := Lib.hid hb
      have hwz := hb.size
      clear hb
      rcases hD with ⟨rfl, D, hv, hdl, hF⟩ | ⟨rfl, e0, D, hnew, hv, hdl, hF⟩
      · obtain ⟨Bv, dv, rfl, _, _, _⟩ := hv.forms
        have HV := Lib.hid hv
        have HF := Lib.hid hF
        clear hF hv
        by_cases hge : Op.bytesLess es.toList K.toList = true
        · have HG : geK K es = false := by unfold geK; rw [hge]; rfl
          have HGE := Lib.hid HG
          clear HG
          by_cases he : es = K
          · have hq : (es.toList == K.toList) = true := by rw [he]; simp
            have HE := Lib.hid he
            clear he
            go_wp2
            go_roundw
            case rel =>
              refine ⟨k + 1, by omega, by go_num, HB.out, .inl ⟨rfl, D, HV.out, by omega, fun e0 => ?_⟩⟩
              rw [HST.out, HF.out]
              unfold putP
              dsimp only
              rw [if_neg (by rw [HGE.out]; simp), if_neg (by rw [HE.out]; simp)]
            case measure => simp [intOf]; omega
          · have hq : (es.toList == K.toList) = false := by
              rw [beq_eq_false_iff_ne, ne_eq, toList_inj]
              exact he
            have HE := Lib.hid he
            clear he
            go_wp2_with (
              at_builtin
              refine wpList_append_G _ rfl (.tmp 41) (.tmp 46) _ _ _ _ itT rfl w.heap.size (.slice Bv D.length dv) D rfl (HV.out.alloc _) _ 1 1 [⟨es, eA, en, ec⟩] rfl (SegG.newAt _ _ _ _ _ _ rfl rfl rfl) (by omega) (by simp; omega) ?_
              intro v4 w4 hv4 hg4 hat4)
            go_roundw
            case rel =>
              refine ⟨k + 1, by omega, by go_num, below_grownG (HB.out.alloc hwz _) (HV.out.alloc _) hg4 (Nat.le_refl _) (by simp; omega), .inl ⟨rfl, _, hv4, by simp; omega, fun e0 => ?_⟩⟩
              rw [HST.out, HF.out]
              unfold putP
              dsimp only
              rw [if_neg (by rw [HGE.out]; simp), if_pos HE.out]
            case measure => simp [intOf]; omega
        · have hge : Op.bytesLess es.toList K.toList = false := by simpa using hge
          have HG : geK K es = true := by unfold geK; rw [hge]; rfl
          have HGE := Lib.hid HG
          clear HG
          go_wp2_with fail
          refine (HJ.out _ HB.out).mono ?_
          rintro e w1 ⟨v1, rfl, ho1, hb1⟩
          have hlt1 := ho1.lt
          obtain ⟨A1, c1, rfl, hs1, hc1, hm1⟩ := ho1.forms
          rw [hql] at hs1 hc1
          have HN := Lib.hid (show NewAt w1 w.heap.size (.slice Bv D.length dv) K l ⟨K, A1, q, c1⟩ from ⟨rfl, hs1, hc1, hm1, fun hn a ha => by
            cases ha
            have h2 := (hlt1 a.block rfl).1
            refine ⟨fun e => ?_, by omega⟩
            have h1 := (HV.out.lt _ e).2
            omega⟩)
          have HV1 := Lib.hid (HV.out.below hb1)
          have hb1' := Below.next' HB.out hb1 hwz
          have hwz1 := hb1'.size
          have HB1 := Lib.hid hb1'
          clear ho1 hb1 hb1' hlt1 hs1 hc1 hm1
          by_cases he : es = K
          · have hq : (es.toList == K.toList) = true := by rw [he]; simp
            have HE := Lib.hid he
            clear he
            go_wp2_with (
              at_builtin
              refine wpList_append_G _ rfl (.tmp 27) (.tmp 32) _ _ _ _ itT rfl w.heap.size (.slice Bv D.length dv) D rfl (HV1.out.alloc _) _ 1 1 [⟨K, A1, q, c1⟩] rfl (SegG.newAt _ _ _ _ _ _ rfl rfl rfl) (by omega) (by simp; omega) ?_
              intro v4 w4 hv4 hg4 hat4
              have hb4 : Below w.heap.size w w4 := below_grownG (HB1.out.alloc hwz1 _) (HV1.out.alloc _) hg4 (Nat.le_refl _) (by simp; omega)
              have HN4 := Lib.hid (HN.out.step hg4 hat4)
              obtain ⟨x0, x1⟩ := HC.out w4 hb4
              have hwz4 := hb4.size
              have HB4 := Lib.hid hb4
              obtain ⟨B4, d4, hv4e, _, _, _⟩ := hv4.forms
              rw [show (D ++ [(⟨K, A1, q, c1⟩ : ItS)]).length = D.length + 1 by simp] at hv4e
              subst hv4e
              have HV4 := Lib.hid hv4
              clear hb4 hg4 hat4 hv4)
            go_roundw
            case rel =>
              refine ⟨k + 1, by omega, by go_num, HB4.out, .inr ⟨rfl, _, _, HN4.out, HV4.out, by simp; omega, ?_⟩⟩
              rw [HST.out, HF.out]
              unfold putP
              dsimp only
              rw [if_pos ⟨rfl, HGE.out⟩, if_neg (by rw [HE.out]; simp)]
            case measure => simp [intOf]; omega
          · have hq : (es.toList == K.toList) = false := by
              rw [beq_eq_false_iff_ne, ne_eq, toList_inj]
              exact he
            have HE := Lib.hid he
            clear he
            go_wp2_with (
              at_builtin
              first
              | (
                refine wpList_append_G _ rfl (.tmp 27) (.tmp 32) _ _ _ _ itT rfl w.heap.size (.slice Bv D.length dv) D rfl (HV1.out.alloc _) _ 1 1 [⟨K, A1, q, c1⟩] rfl (SegG.newAt _ _ _ _ _ _ rfl rfl rfl) (by omega) (by simp; omega) ?_
                intro v4 w4 hv4 hg4 hat4
                have hb4 : Below w.heap.size w w4 := below_grownG (HB1.out.alloc hwz1 _) (HV1.out.alloc _) hg4 (Nat.le_refl _) (by simp; omega)
                have HN4 := Lib.hid (HN.out.step hg4 hat4)
                obtain ⟨x0, x1⟩ := HC.out w4 hb4
                have hwz4 := hb4.size
                have HB4 := Lib.hid hb4
                obtain ⟨B4, d4, hv4e, _, _, _⟩ := hv4.forms
                rw [show (D ++ [(⟨K, A1, q, c1⟩ : ItS)]).length = D.length + 1 by simp] at hv4e
                subst hv4e
                have HV4 := Lib.hid hv4
                clear hb4 hg4 hat4 hv4)
              | (
                refine wpList_append_G _ rfl (.tmp 41) (.tmp 46) _ _ _ _ itT rfl w.heap.size (.slice B4 (D.length + 1) d4) (D ++ [⟨K, A1, q, c1⟩]) rfl (HV4.out.alloc _) _ 1 1 [⟨es, eA, en, ec⟩] rfl (SegG.newAt _ _ _ _ _ _ rfl rfl rfl) (by simp; omega) (by simp; omega) ?_
                intro v5 w5 hv5 hg5 hat5))
            go_roundw
            case rel =>
              refine ⟨k + 1, by omega, by go_num, below_grownG (HB4.out.alloc hwz4 _) (HV4.out.alloc _) hg5 (Nat.le_refl _) (by simp; omega), .inr ⟨rfl, _, _, HN4.out.step hg5 hat5, hv5, by simp; omega, ?_⟩⟩
              rw [HST.out, HF.out]
              unfold putP
              dsimp only
              rw [if_pos ⟨rfl, HGE.out⟩, if_pos HE.out]
            case measure => simp [intOf]; omega
      · obtain ⟨Bv, dv, rfl, _, _, _⟩ := hv.forms
        have HV := Lib.hid hv
        have HF := Lib.hid hF
        have HN := Lib.hid hnew
        clear hF hv hnew
        by_cases he : es = K
        · have hq : (es.toList == K.toList) = true := by rw [he]; simp
          have HE := Lib.hid he
          clear he
          go_wp2
          go_roundw
          case rel =>
            refine ⟨k + 1, by omega, by go_num, HB.out, .inr ⟨rfl, e0, D, HN.out, HV.out, by omega, ?_⟩⟩
            rw [HST.out, HF.out]
            unfold putP
            dsimp only
            rw [if_neg (by simp), if_neg (by rw [HE.out]; simp)]
          case measure => simp [intOf]; omega
        · have hq : (es.toList == K.toList) = false := by
            rw [beq_eq_false_iff_ne, ne_eq, toList_inj]
            exact he
          have HE := Lib.hid he
          clear he
          go_wp2_with (
            at_builtin
            refine wpList_append_G _ rfl (.tmp 41) (.tmp 46) _ _ _ _ itT rfl w.heap.size (.slice Bv D.length dv) D rfl (HV.out.alloc _) _ 1 1 [⟨es, eA, en, ec⟩] rfl (SegG.newAt _ _ _ _ _ _ rfl rfl rfl) (by omega) (by simp; omega) ?_
            intro v5 w5 hv5 hg5 hat5)
          go_roundw
          case rel =>
            refine ⟨k + 1, by omega, by go_num, below_grownG (HB.out.alloc hwz _) (HV.out.alloc _) hg5 (Nat.le_refl _) (by simp; omega), .inr ⟨rfl, e0, _, HN.out.step hg5 hat5, hv5, by simp; omega, ?_⟩⟩
            rw [HST.out, HF.out]
            unfold putP
            dsimp only
            rw [if_neg (by simp), if_pos HE.out]
          case measure => simp [intOf]; omega
    · obtain rfl : n = k := by omega
      have hS : S.take n = S := List.take_of_length_le (by omega)
      rw [hS] at hD
      have HB := Lib.hid hb
      have hwz := hb.size
      clear hb ha hl
      rcases hD with ⟨rfl, D, hv, hdl, hF⟩ | ⟨rfl, e0, D, hnew, hv, hdl, hF⟩
      · obtain ⟨Bv, dv, rfl, _, _, _⟩ := hv.forms
        have HV := Lib.hid hv
        have HF := Lib.hid hF
        clear hF hv
        go_wp2_with fail
        refine (HJ.out _ HB.out).mono ?_
        rintro e w1 ⟨v1, rfl, ho1, hb1⟩
        have hlt1 := ho1.lt
        obtain ⟨A1, c1, rfl, hs1, hc1, hm1⟩ := ho1.forms
        rw [hql] at hs1 hc1
        have HN := Lib.hid (show NewAt w1 w.heap.size (.slice Bv D.length dv) K l ⟨K, A1, q, c1⟩ from ⟨rfl, hs1, hc1, hm1, fun hn a ha => by
          cases ha
          have h2 := (hlt1 a.block rfl).1
          refine ⟨fun e => ?_, by omega⟩
          have h1 := (HV.out.lt _ e).2
          omega⟩)
        have HV1 := Lib.hid (HV.out.below hb1)
        have hb1' := Below.next' HB.out hb1 hwz
        have hwz1 := hb1'.size
        have HB1 := Lib.hid hb1'
        clear ho1 hb1 hb1' hlt1 hs1 hc1 hm1
        go_wp2_with (
          at_builtin
          refine wpList_append_G _ rfl (.tmp 50) (.tmp 55) _ _ _ _ itT rfl w.heap.size (.slice Bv D.length dv) D rfl (HV1.out.alloc _) _ 1 1 [⟨K, A1, q, c1⟩] rfl (SegG.newAt _ _ _ _ _ _ rfl rfl rfl) (by omega) (by simp; omega) ?_
          intro v4 w4 hv4 hg4 hat4)
        obtain ⟨B4, d4, rfl, _, _, _⟩ := hv4.forms
        go_ret
        refine ⟨_, _, rfl, HN.out.step hg4 hat4, ?_, below_grownG (HB1.out.alloc hwz1 _) (HV1.out.alloc _) hg4 (Nat.le_refl _) (by simp; omega)⟩
        rw [HF.out]
        exact hv4
      · obtain ⟨Bv, dv, rfl, _, _, _⟩ := hv.forms
        go_wp2
        go_ret
        refine ⟨_, e0, rfl, hnew, ?_, HB.out⟩
        rw [hF]
        exact hv

end Go.Proofs.YtpbjianhkjjgkaaDoor

namespace Go.Proofs.YtpbjianhkjjgkaaDoor
open Go.RowKit

theorem put_done (K : ByteArray) (e0 : ItS) : ∀ (S D : List ItS), S.foldl (putP K e0) (D, true) = (D ++ S.filter fun s => decide (s.s ≠ K), true)
  | [], D => by simp
  | s :: S, D => by
    rw [List.foldl_cons, List.filter_cons]
    unfold putP
    dsimp only
    rw [if_neg (by simp)]
    by_cases h : s.s ≠ K
    · rw [if_pos h, decide_eq_true h, if_pos rfl]
      have := put_done K e0 S (D ++ [s])
      unfold putP at this
      rw [this, List.append_assoc]
      rfl
    · rw [if_neg h, show decide (s.s ≠ K) = false by rw [decide_eq_false_iff_not]; exact h, if_neg (by simp)]
      have := put_done K e0 S D
      unfold putP at this
      exact this

/-- With the order of texts told by numbers (hge), what the document's Put makes stands for the items that are put. -/
theorem put_it {w : World} {k : Nat} {l : List UInt8} {e0 : ItS} (he : ItAt w e0 (k, l)) (hge : ∀ x, x < 280 → geK (keyOf k) (keyOf x) = decide (k ≤ x)) (hkx : ∀ x, x < 280 → (keyOf x = keyOf k ↔ x = k)) : ∀ (S : List ItS) (m : List It) (D : List ItS), ItsAt w S m → Asc m → (∀ x ∈ m, x.1 < 280) →
    ∃ R, putEnd e0 (S.foldl (putP (keyOf k) e0) (D, false)) = D ++ R ∧ ItsAt w R (putI m k l)
  | [], [], D, _, _, _ => ⟨[e0], rfl, he, trivial⟩
  | s :: S, x :: m, D, h, ha, hd => by
    have hx := hd x (List.mem_cons_self ..)
    have hm : ∀ y ∈ m, y.1 < 280 := fun y hy => hd y (List.mem_cons_of_mem _ hy)
    have hxm := (List.pairwise_cons.1 ha).1
    have ham : Asc m := (List.pairwise_cons.1 ha).2
    have hkm : ∀ y ∈ m, keyOf y.1 = keyOf k ↔ y.1 = k := fun y hy => hkx y.1 (hm y hy)
    have hss := h.1.1
    rw [List.foldl_cons]
    unfold putI
    by_cases h1 : x.1 < k
    · have hg : geK (keyOf k) s.s = false := by rw [hss, hge _ hx]; simp; omega
      have hne : s.s ≠ keyOf k := fun e => by
        have := (hkx x.1 hx).1 (by rw [← hss, e])
        omega
      rw [show putP (keyOf k) e0 (D, false) s = (D ++ [s], false) by unfold putP; dsimp only; rw [if_neg (by rw [hg]; simp), if_pos hne]]
      obtain ⟨R, hR, hi⟩ := put_it he hge hkx S m (D ++ [s]) h.2 ham hm
      refine ⟨s :: R, by rw [hR, List.append_assoc]; rfl, ?_⟩
      rw [if_pos h1]
      exact ⟨h.1, hi⟩
    · have hg : geK (keyOf k) s.s = true := by rw [hss, hge _ hx]; simp; omega
      have hdel := ItsAt.del (k := k) h.2 hkm
      rw [del_none (fun l' hl' => by have := hxm _ hl'; dsimp only at this; omega)] at hdel
      rw [if_neg h1]
      by_cases h2 : x.1 = k
      · have heq : s.s = keyOf k := by rw [hss, h2]
        rw [show putP (keyOf k) e0 (D, false) s = (D ++ [e0], true) by unfold putP; dsimp only; rw [if_pos ⟨rfl, hg⟩, if_neg (by rw [heq]; simp)], put_done, if_pos h2]
        refine ⟨e0 :: _, by unfold putEnd; rw [if_pos rfl, List.append_assoc]; rfl, he, hdel⟩
      · have hne : s.s ≠ keyOf k := fun e => h2 ((hkx x.1 hx).1 (by rw [← hss, e]))
        rw [show putP (keyOf k) e0 (D, false) s = (D ++ [e0] ++ [s], true) by unfold putP; dsimp only; rw [if_pos ⟨rfl, hg⟩, if_pos hne], put_done, if_neg h2]
        refine ⟨e0 :: s :: _, by unfold putEnd; rw [if_pos rfl, List.append_assoc, List.append_assoc]; rfl, he, h.1, hdel⟩
  | [], _ :: _, _, h, _, _ => h.elim
  | _ :: _, [], _, h, _, _ => h.elim

end Go.Proofs.YtpbjianhkjjgkaaDoor

namespace Go.Proofs.YtpbjianhkjjgkaaDoor
open Go.RowKit

theorem less_two (a b c d : UInt8) : Op.bytesLess [a, b] [c, d] = decide (a.toNat < c.toNat ∨ (a.toNat = c.toNat ∧ b.toNat < d.toNat)) := by
  rw [Bool.eq_iff_iff, decide_eq_true_iff]
  simp only [Op.bytesLess, Bool.or_eq_true, Bool.and_eq_true, decide_eq_true_iff, beq_iff_eq, UInt8.lt_iff_toNat_lt, Bool.or_false, Bool.and_false]
  rw [← UInt8.toNat_inj]
theorem less_key {x k : Nat} (hx : x < 280) (hk : k < 280) : Op.bytesLess (keyOf x).toList (keyOf k).toList = decide (x < k) := by
  rw [ByteArray.toList_eq, ByteArray.toList_eq, keyOf_list, keyOf_list]
  unfold keyB
  split <;> split <;> rw [less_two, decide_eq_decide] <;> simp only [UInt8.toNat_ofNat', UInt8.reduceToNat, true_and, Nat.lt_irrefl, false_or] <;> omega
theorem geK_key {k x : Nat} (hx : x < 280) (hk : k < 280) : geK (keyOf k) (keyOf x) = decide (k ≤ x) := by
  unfold geK
  rw [less_key hx hk, Bool.eq_iff_iff]
  simp

theorem rputI_any (A : Option Addr) (n c : Nat) (S : List ItS) (m : List It) (k : Nat) (B : Option Addr) (q r : Nat) (l : List UInt8) (w : World) (ha : SegG itLay w A n S) (hi : ItsAt w S m) (hm : Its m) (hk : k < 280) (hl : Seg w B q l) (hn : n ≤ 100000) (hq : q ≤ 100000) :
    Calls Tryd.prog 62 #[.slice A n c, .string (keyOf k), .slice B q r] w fun e w' => ∃ v R, e = .returned v ∧ OwnI w' w.heap.size v R ∧ ItsAt w' R (putI m k l) ∧ Below w.heap.size w w' := by
  refine (rput_any A n c S (keyOf k) B q r l w ha hl hn hq).mono ?_
  rintro e w' ⟨v, e0, rfl, hnew, hv, hb⟩
  obtain ⟨R, hR, hi'⟩ := put_it (w := w') (k := k) (l := l) (e0 := e0) ⟨hnew.1, hnew.2.1, hnew.2.2.1, hnew.2.2.2.1⟩ (fun x hx => geK_key hx hk) (fun x hx => ⟨fun e => keyOf_inj hx hk e, fun e => by rw [e]⟩) S m [] (hi.below hb) hm.1 hm.2
  rw [List.nil_append] at hR
  refine ⟨v, R, rfl, ?_, hi', hb⟩
  rw [← hR]
  exact hv
theorem rdelI_any (A : Option Addr) (n c : Nat) (S : List ItS) (m : List It) (k : Nat) (w : World) (ha : SegG itLay w A n S) (hi : ItsAt w S m) (hm : Its m) (hk : k < 280) (hn : n ≤ 100000) :
    Calls Tryd.prog 61 #[.slice A n c, .string (keyOf k)] w fun e w' => ∃ v R, e = .returned v ∧ OwnI w' w.heap.size v R ∧ ItsAt w' R (delI m k) ∧ Below w.heap.size w w' := by
  refine (rdel_any A n c S (keyOf k) w ha hn).mono ?_
  rintro e w' ⟨v, rfl, hv, hb⟩
  exact ⟨v, _, rfl, hv, ItsAt.del (hi.below hb) (hm.keys hk), hb⟩

end Go.Proofs.YtpbjianhkjjgkaaDoor

namespace Go.Proofs.YtpbjianhkjjgkaaDoor
open Go.RowKit

def ansG : Option ItS → Value
  | some s => .tuple #[.slice s.A s.n s.c, .bool true]
  | none => .tuple #[.slice none 0 0, .bool false]
/-- What Get answers: the first struct of that key. -/
def getS (K : ByteArray) : List ItS → Option ItS
  | [] => none
  | s :: S => if s.s = K then some s else getS K S
theorem getS_drop (K : ByteArray) (S : List ItS) (k : Nat) (hk : k < S.length) : getS K (S.drop k) = if S[k].s = K then some S[k] else getS K (S.drop (k + 1)) := by
  rw [List.drop_eq_getElem_cons hk]
  rfl

set_option maxHeartbeats 4000000 in
theorem rget_any (A : Option Addr) (n c : Nat) (S : List ItS) (K : ByteArray) (w : World) (ha : SegG itLay w A n S) (hn : n ≤ 100000) :
    Calls Tryd.prog 21 #[.slice A n c, .string K] w fun e w' => e = .returned (ansG (getS K S)) ∧ w' = w := by
  have hsl := ha.1
  obtain ⟨R, hR⟩ : ∃ R, getS K S = R := ⟨_, rfl⟩
  rw [hR]
  have HR := Lib.hid hR
  clear hR
  go_enter Tryd.func21, Tryd.ntmps21
  go_wp2_with fail
  go_loopw [6] (fun i w' => ∃ k : Nat, k ≤ n ∧ i = .int .i64 k ∧ getS K (S.drop k) = R ∧ w' = w) (fun i _ => n - (intOf i).toNat)
  case atStart => exact ⟨0, by omega, rfl, HR.out, rfl⟩
  case round =>
    obtain ⟨k, hk, rfl, hg, rfl⟩ := hrel
    by_cases hlt : k < n
    · have hst := getS_drop K S k (by omega)
      rw [hg] at hst
      obtain ⟨g, o, rfl, hc⟩ := ha.at_ hlt
      obtain ⟨e, he⟩ : ∃ e, S[k]'(by omega) = e := ⟨_, rfl⟩
      have x0 := hc 0 (.string e.s) (by rw [he]; rfl)
      have x1 := hc 1 (.slice e.A e.n e.c) (by rw [he]; rfl)
      rw [he] at hst
      rw [show itLay.z = 2 from rfl] at x0 x1
      rw [Nat.add_zero] at x0
      obtain ⟨es, eA, en, ec⟩ := e
      dsimp only at x0 x1 hst
      have HST := Lib.hid hst
      clear hc he ha hst hg
      by_cases he : es = K
      · have hq : (es.toList == K.toList) = true := by rw [he]; simp
        have HE := Lib.hid he
        clear he
        go_wp2
        go_ret2
        have hr : R = some ⟨es, eA, en, ec⟩ := by have := HST.out; rw [if_pos HE.out] at this; exact this
        subst hr
        exact ⟨rfl, rfl⟩
      · have hq : (es.toList == K.toList) = false := by
          rw [beq_eq_false_iff_ne, ne_eq, toList_inj]
          exact he
        have HE := Lib.hid he
        clear he
        go_wp2
        go_roundw
        case rel => exact ⟨k + 1, by omega, by go_num, by have := HST.out; rw [if_neg HE.out] at this; exact this.symm, trivial⟩
        case measure => simp [intOf]; omega
    · obtain rfl : n = k := by omega
      rw [show S.drop n = [] by rw [List.drop_eq_nil_iff]; omega] at hg
      have HG := Lib.hid hg
      clear hg ha
      go_wp2
      go_ret2
      have hr : R = none := HG.out.symm
      subst hr
      exact ⟨rfl, rfl⟩

end Go.Proofs.YtpbjianhkjjgkaaDoor

namespace Go.Proofs.YtpbjianhkjjgkaaDoor
open Go.RowKit

theorem run_ky (W : World) (o : Obj) (k : Nat) (hk : k < 24) :
    (convert 29 9 (.slice (some ⟨W.heap.size + 1, 0, none⟩) 2 2)).run Tryd.prog ((W.alloc o).alloc (.cells #[.int .u8 107, .int .u8 (k : Int)] 5)) = .ok (.string (keyOf k)) ((W.alloc o).alloc (.cells #[.int .u8 107, .int .u8 (k : Int)] 5)) := by
  rw [run_string_seg (P := Tryd.prog) _ 29 9 5 bt Tryd.underlying9 _ 2 2 [107, UInt8.ofNat k] (Seg.newAt (W.alloc o) _ 5 _ _ 2 (by simp) (by simp [cellsB]; omega) rfl)]
  unfold keyOf keyB
  rw [if_pos hk]

set_option maxHeartbeats 4000000 in
theorem key_any (t : Bool) (b : Nat) (A : Option Addr) (n c : Nat) (w : World) (hb : b < 256) :
    Calls Tryd.prog 32 #[.agg #[.bool t, .int .u8 (b : Int), .slice A n c]] w fun e w' => e = .returned (.string (keyOf (b % 24))) ∧ Below w.heap.size w w' := by
  obtain ⟨q, hq⟩ : ∃ q, b % 24 = q := ⟨_, rfl⟩
  have hq24 : q < 24 := by omega
  have hm : (b : Int) % 24 = (q : Int) := by omega
  have hm2 : (b : Int).tmod 24 = (q : Int) := by rw [Int.tmod_eq_emod_of_nonneg (by omega)]; omega
  rw [hq]
  have kc := fun (o : Obj) => run_ky w o q hq24
  clear hq
  generalize keyOf q = K at *
  go_enter Tryd.func32, Tryd.ntmps32
  go_wp2
  go_ret
  exact ⟨rfl, ((Below.refl _ _).alloc (Nat.le_refl _) _).alloc (by simp) _⟩

end Go.Proofs.YtpbjianhkjjgkaaDoor
