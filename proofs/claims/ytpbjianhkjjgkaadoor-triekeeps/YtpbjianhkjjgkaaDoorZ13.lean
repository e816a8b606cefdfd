/-
  Texts of one claim, joined.
-/
import Derived.Test.YtpbjianhkjjgkaaDoorZ12
namespace Go.Proofs.YtpbjianhkjjgkaaDoor
open Go.RowKit

theorem keyOf_inj {u v : Nat} (hu : u < 280) (hv : v < 280) (h : keyOf u = keyOf v) : u = v := by
  refine sumOf_inj hu hv ?_
  have e : keyB u = keyB v := by rw [← keyOf_list, ← keyOf_list, h]
  unfold sumOf
  rw [e]

theorem twith_any : ∀ (f : Nat) (m : List It) (d k : Nat) (l : List UInt8) (v : Value) (gl : Nat) (w : World), d + f = 256 → Good (putI m k l) d → Good m d → (putI m k l).length ≤ 100000 →
    TreeAt w (tree f m d) v → TreeAt w (.leaf k l) (.pointer (some ⟨gl, 0, none⟩)) → Tab w →
    Calls Tryd.prog 70 #[v, .pointer (some ⟨gl, 0, none⟩), .string (sumOf k), .int .i64 (d : Int)] w fun e w' => ∃ u, e = .returned u ∧ TreeAt w' (tree f (putI m k l) d) u ∧ Below w.heap.size w w' := by
  intro f
  induction f with
  | zero =>
    intro m d k l v gl w hd hg hgm hlen hv hvl ht
    by_cases h0 : m = []
    · subst h0
      rw [tree_nil] at hv
      have e : v = .pointer none := hv
      subst e
      refine (with_nil gl (sumOf k) (d : Int) w).mono ?_
      rintro e w' ⟨rfl, hb⟩
      refine ⟨_, rfl, ?_, hb⟩
      show TreeAt w' (tree 0 [(k, l)] d) _
      rw [tree_one]
      exact hvl.below hb
    · by_cases h1 : ∃ x, m = [x] ∧ x.1 = k
      · obtain ⟨x, rfl, hx⟩ := h1
        rw [tree_one] at hv
        obtain ⟨p, rfl⟩ := hv.ptr
        obtain ⟨g, A, c, hp, _⟩ := id hv
        injection hp with hp
        subst hp
        refine (with_eq x.1 x.2 d k l g gl (sumOf k) w (by rw [hx]) hv hvl).mono ?_
        rintro e w' ⟨rfl, hb⟩
        refine ⟨_, rfl, ?_, hb⟩
        have e : putI [x] k l = [(k, l)] := by unfold putI; rw [if_neg (by omega), if_pos hx]
        rw [e, tree_one]
        exact hvl.below hb
      · have := hg.room (put_two h0 fun x hx hk => h1 ⟨x, hx, hk⟩)
        omega
  | succ f ih =>
    intro m d k l v gl w hd hg hgm hlen hv hvl ht
    by_cases h0 : m = []
    · subst h0
      rw [tree_nil] at hv
      have e : v = .pointer none := hv
      subst e
      refine (with_nil gl (sumOf k) (d : Int) w).mono ?_
      rintro e w' ⟨rfl, hb⟩
      refine ⟨_, rfl, ?_, hb⟩
      show TreeAt w' (tree (f + 1) [(k, l)] d) _
      rw [tree_one]
      exact hvl.below hb
    · by_cases h1 : ∃ x, m = [x] ∧ x.1 = k
      · obtain ⟨x, rfl, hx⟩ := h1
        rw [tree_one] at hv
        obtain ⟨g, A, c, rfl, _⟩ := id hv
        refine (with_eq x.1 x.2 d k l g gl (sumOf k) w (by rw [hx]) hv hvl).mono ?_
        rintro e w' ⟨rfl, hb⟩
        refine ⟨_, rfl, ?_, hb⟩
        have e : putI [x] k l = [(k, l)] := by unfold putI; rw [if_neg (by omega), if_pos hx]
        rw [e, tree_one]
        exact hvl.below hb
      · have h2 := put_two (k := k) (l := l) h0 fun x hx hk => h1 ⟨x, hx, hk⟩
        have hk : k < 280 := hg.dom (k, l) ((mem_put hgm.asc _).2 (.inl rfl))
        have hih : ∀ (b : Nat) (v : Value) (W : World), TreeAt W (tree f (halfI m d b) (d + 1)) v → TreeAt W (.leaf k l) (.pointer (some ⟨gl, 0, none⟩)) → Tab W → bitU k d = b →
            Calls Tryd.prog 70 #[v, .pointer (some ⟨gl, 0, none⟩), .string (sumOf k), .int .i64 ((d : Int) + 1)] W fun e W' => ∃ u, e = .returned u ∧ TreeAt W' (tree f (putI (halfI m d b) k l) (d + 1)) u ∧ Below W.heap.size W W' := by
          intro b v W hv hvl htW hb
          have e := half_put hgm.asc k l d b
          rw [if_pos hb] at e
          have hgh := hg.half b
          rw [e] at hgh
          have hll : (putI (halfI m d b) k l).length ≤ 100000 := by
            rw [← e]
            exact Nat.le_trans (List.length_filter_le _ _) hlen
          have := ih (halfI m d b) (d + 1) k l v gl W (by omega) hgh (hgm.half b) hll hv hvl htW
          rw [show (((d + 1 : Nat)) : Int) = (d : Int) + 1 by omega] at this
          exact this
        by_cases hm2 : 2 ≤ m.length
        · obtain ⟨g, rfl⟩ : ∃ g, v = .pointer (some ⟨g, 0, none⟩) := by
            have hv' := hv
            rw [tree_two hm2] at hv'
            obtain ⟨g, _, _, e, _⟩ := hv'
            exact ⟨g, e⟩
          exact with_node f m d k l g gl w hd hg hgm.asc h0 h2 hlen hm2 hgm hv hvl ht hih
        · rcases m with _ | ⟨x, _ | ⟨y, m⟩⟩
          · exact absurd rfl h0
          · obtain ⟨g, rfl⟩ : ∃ g, v = .pointer (some ⟨g, 0, none⟩) := by
              have hv' := hv
              rw [tree_one] at hv'
              obtain ⟨g, _, _, e, _⟩ := hv'
              exact ⟨g, e⟩
            have hne : keyOf x.1 ≠ keyOf k := fun e => h1 ⟨x, rfl, keyOf_inj (hgm.dom x (List.mem_cons_self ..)) hk e⟩
            exact with_ne f [x] d k l g gl w hd hg hgm.asc h0 h2 hlen x rfl hne hgm hv hvl ht hih
          · simp at hm2

end Go.Proofs.YtpbjianhkjjgkaaDoor

namespace Go.Proofs.YtpbjianhkjjgkaaDoor
open Go.RowKit

theorem Lf.tree {w : World} {B g u : Nat} {v : Value} {l : List UInt8} (h : Lf w B g (keyOf u) v l ⟨(sha (leafL (keyOf u).data.toList l)).toArray⟩) (hl : l.length ≤ 100000) : TreeAt w (.leaf u l) (.pointer (some ⟨g, 0, none⟩)) := by
  obtain ⟨A, c, rfl, hs, _, _⟩ := h.own.forms
  refine ⟨g, A, c, rfl, h.h0, h.h1, h.h4, ?_, h.h6, hs, hl⟩
  have h5 := h.h5
  rw [keyOf_list] at h5
  exact h5
theorem ttop_any (f : Nat) (m : List It) (v : Value) (w : World) (h : TreeAt w (tree f m 0) v) : Calls Tryd.prog 72 #[v] w fun e w' => e = .returned (.int .i64 0) ∧ w' = w := by
  have hd : tree f m 0 = .nil ∨ (∃ u l, tree f m 0 = .leaf u l) ∨ ∃ a b, tree f m 0 = .node a b 0 := by
    rcases m with _ | ⟨x, m⟩
    · exact .inl (tree_nil _ _)
    · rcases f with _ | f
      · exact .inr (.inl ⟨_, _, rfl⟩)
      · unfold tree
        split
        · exact .inr (.inl ⟨_, _, rfl⟩)
        · exact .inr (.inr ⟨_, _, rfl⟩)
  have h4 : v = .pointer none ∨ ∃ g, v = .pointer (some ⟨g, 0, none⟩) ∧ w.cell? ⟨g, 4, none⟩ = some (.int .i64 0) := by
    rcases hd with e | ⟨u, l, e⟩ | ⟨a, b, e⟩
    · rw [e] at h
      exact .inl h
    · rw [e] at h
      obtain ⟨g, A, c, e, _, _, h4, _⟩ := h
      exact .inr ⟨g, e, h4⟩
    · rw [e] at h
      obtain ⟨g, pa, pb, e, _, _, h4, _⟩ := h
      exact .inr ⟨g, e, h4⟩
  rcases h4 with rfl | ⟨g, rfl, h4⟩
  · exact top_nil w
  · clear h hd
    go_enter Tryd.func72, Tryd.ntmps72
    go_wp2
    go_ret
    exact ⟨rfl, rfl⟩

/-- Items of the laws' keys, in their order. -/
def Its (m : List It) : Prop := Asc m ∧ ∀ x ∈ m, x.1 < 280
theorem its_len {m : List It} (h : Its m) : m.length ≤ 280 := by
  have hi : ∀ i (hi : i < m.length), i ≤ (m[i]).1 := by
    intro i
    induction i with
    | zero => intro _; exact Nat.zero_le _
    | succ i ih =>
      intro hi
      have h1 := ih (by omega)
      have h2 := List.pairwise_iff_getElem.1 h.1 i (i + 1) (by omega) hi (by omega)
      omega
  rcases Nat.eq_zero_or_pos m.length with h0 | h0
  · omega
  · have h1 := hi (m.length - 1) (by omega)
    have h2 := h.2 _ (List.getElem_mem (show m.length - 1 < m.length by omega))
    omega
theorem Its.put {m : List It} (h : Its m) {k : Nat} (hk : k < 280) (l : List UInt8) : Its (putI m k l) :=
  ⟨asc_put k l h.1, fun x hx => by
    rcases (mem_put h.1 x).1 hx with rfl | ⟨hm, _⟩
    · exact hk
    · exact h.2 x hm⟩

set_option maxHeartbeats 4000000 in
theorem tput_any (m : List It) (k : Nat) (l : List UInt8) (v : Value) (A : Option Addr) (n c : Nat) (w : World) (hm : Its m) (hk : k < 280) (hv : TreeAt w (tree 256 m 0) v) (ha : Seg w A n l) (hn : n ≤ 100000) (ht : Tab w) :
    Calls Tryd.prog 29 #[v, .string (keyOf k), .slice A n c] w fun e w' => ∃ u, e = .returned u ∧ TreeAt w' (tree 256 (putI m k l) 0) u ∧ Below w.heap.size w w' := by
  have hks := keyOf_size k
  have hnl := newLeaf_any (keyOf k) A n c l w ha (by omega) hn ht
  have hlf := fun (W : World) (B g : Nat) (u : Value) (h : Lf W B g (keyOf k) u l ⟨(sha (leafL (keyOf k).data.toList l)).toArray⟩) => Lf.tree h (by rw [ha.1]; exact hn)
  have hsu : (⟨(sha (keyOf k).data.toList).toArray⟩ : ByteArray) = sumOf k := by rw [keyOf_list]; rfl
  have hp := hm.put hk l
  have hg := Good.root hp.1 hp.2
  have hgm := Good.root hm.1 hm.2
  have hpl := its_len hp
  have HSU := Lib.hid hsu
  have HNL := Lib.hid hnl
  have HLF := Lib.hid hlf
  obtain ⟨p, rfl⟩ := hv.ptr
  clear hsu hnl hlf
  go_enter Tryd.func29, Tryd.ntmps29
  go_wp2_with fail
  refine HNL.out.mono ?_
  rintro e w1 ⟨g, v1, rfl, hl1, hb1⟩
  have hl1 := HLF.out _ _ _ _ hl1
  have hv1 := hv.below hb1
  clear HNL HLF hv
  go_wp2_with fail
  refine (keySum_any (keyOf k) _ (by omega) (Tab.below ht hb1)).mono ?_
  rw [HSU.out]
  rintro e w2 ⟨rfl, hb2⟩
  have hl2 := hl1.below hb2
  have hv2 := hv1.below hb2
  have hbw2 := Below.next' hb1 hb2 hb1.size
  clear hl1 hv1 hb1 hb2
  go_wp2_with fail
  refine (ttop_any 256 m _ _ hv2).mono ?_
  rintro e w3 ⟨rfl, rfl⟩
  go_wp2_with fail
  refine (twith_any 256 m 0 k l _ g _ (by omega) hg hgm (by omega) hv2 hl2 (Tab.below ht hbw2)).mono ?_
  rintro e w4 ⟨u, rfl, hu, hb4⟩
  obtain ⟨q, rfl⟩ := hu.ptr
  go_wp2
  go_ret
  exact ⟨_, rfl, hu, Below.next' hbw2 hb4 hbw2.size⟩

end Go.Proofs.YtpbjianhkjjgkaaDoor

namespace Go.Proofs.YtpbjianhkjjgkaaDoor
open Go.RowKit

/-- How far it is to a leaf, at most: read off memory. -/
def findM (p : Value) (w : World) : Nat :=
  match p with
  | .pointer (some a) => match w.cell? ⟨a.block, 6, none⟩, w.cell? ⟨a.block, 4, none⟩ with
    | some (.int _ n), some (.int _ d) => if n ≤ 1 then 0 else 257 - d.toNat
    | _, _ => 0
  | _ => 0
theorem findM_node {w : World} {a b : Tr} {d : Nat} {p : Value} (h : TreeAt w (.node a b d) p) : findM p w = 257 - d := by
  obtain ⟨g, pa, pb, rfl, c2, c3, c4, c5, c6, hc, _⟩ := h
  unfold findM
  simp only [c4, c6]
  rw [if_neg (by omega)]
  rfl
theorem findM_small {w : World} {t : Tr} {p : Value} (h : TreeAt w t p) (ht : t.cnt ≤ 1) : findM p w = 0 := by
  rcases t with _ | ⟨u, l⟩ | ⟨a, b, d⟩
  · have e : p = .pointer none := h
    subst e
    rfl
  · obtain ⟨g, A, c, rfl, h0, h1, h4, h5, h6, _⟩ := h
    unfold findM
    simp only [h4, h6]
    rfl
  · obtain ⟨g, pa, pb, rfl, c2, c3, c4, c5, c6, hc, _⟩ := h
    omega
theorem findM_le {w : World} {f d : Nat} {r : List It} {p : Value} (hd : d + f = 256) (hg : Good r d) (h : TreeAt w (tree f r d) p) : findM p w ≤ 257 - d := by
  by_cases h2 : 2 ≤ r.length
  · have := hg.room h2
    obtain ⟨f', rfl⟩ : ∃ f', f = f' + 1 := ⟨f - 1, by omega⟩
    rw [tree_two h2] at h
    rw [findM_node h]
    exact Nat.le_refl _
  · rw [findM_small h (by rw [tree_cnt f r d hd hg]; omega)]
    exact Nat.zero_le _

/-- What 'find' answers: the key's leaf, or nothing. -/
def FoundP (w : World) (m : List It) (k : Nat) (u : Value) : Prop := (∀ l, (k, l) ∈ m → TreeAt w (.leaf k l) u) ∧ ((∀ l, (k, l) ∉ m) → u = .pointer none)

set_option maxHeartbeats 8000000 in
theorem tfind_any (m : List It) (K : ByteArray) (k : Nat) (v : Value) (w : World) (hm : Its m) (hK : ∀ x ∈ m, keyOf x.1 = K ↔ x.1 = k) (hv : TreeAt w (tree 256 m 0) v) (S : ByteArray) (hS : S.size ≤ 1000000) (hSk : (∃ l, (k, l) ∈ m) → S = sumOf k) :
    Calls Tryd.prog 63 #[v, .string K, .string S] w fun e w' => ∃ u, e = .returned u ∧ FoundP w m k u ∧ w' = w := by
  have hgm := Good.root hm.1 hm.2
  have HKK := Lib.hid hK
  have HSK := Lib.hid hSk
  have HM := Lib.hid hm
  clear hK hSk
  obtain ⟨p0, hp0⟩ := hv.ptr
  go_enter Tryd.func63, Tryd.ntmps63
  go_wp2_with fail
  go_loopw [0] (fun p w' => ∃ (f : Nat) (r : List It) (d : Nat), d + f = 256 ∧ Good r d ∧ TreeAt w (tree f r d) p ∧ (∀ x ∈ r, x ∈ m) ∧ (∀ l, (k, l) ∈ m → (k, l) ∈ r) ∧ w' = w) (fun p w' => findM p w')
  case atStart => exact ⟨256, m, 0, rfl, hgm, hv, fun _ h => h, fun _ h => h, rfl⟩
  case round =>
    obtain ⟨f, r, d, hd, hg, hp, hsub, hin, rfl⟩ := hrel
    have hc := tree_cnt f r d hd hg
    have HSUB := Lib.hid hsub
    have HIN := Lib.hid hin
    clear hsub hin hv
    by_cases h2 : 2 ≤ r.length
    · have hroom := hg.room h2
      obtain ⟨f', rfl⟩ : ∃ f', f = f' + 1 := ⟨f - 1, by omega⟩
      have HP := Lib.hid hp
      have hlen := tlen_any _ _ _ hp
      rw [hc] at hlen
      rw [tree_two h2] at hp
      have HMM := Lib.hid (findM_node hp)
      obtain ⟨g, pa, pb, rfl, c2, c3, c4, c5, c6, hcc, ha, hb⟩ := hp
      obtain ⟨qa, rfl⟩ := ha.ptr
      obtain ⟨qb, rfl⟩ := hb.ptr
      have HAB := Lib.hid (And.intro ha hb)
      have HLEN := Lib.hid hlen
      have HG := Lib.hid hg
      clear hlen ha hb hcc c5 c6 hg hc
      obtain ⟨n, hn⟩ : ∃ n, r.length = n := ⟨_, rfl⟩
      rw [hn] at HLEN h2
      have d1 : decide ((1 : Int) < (n : Int)) = true := decide_eq_true (by omega)
      clear hn
      go_wp2_with fail
      refine HLEN.out.mono ?_
      rintro e w1 ⟨rfl, rfl⟩
      go_wp2_with fail
      refine (bit_any S (d : Int) _ hS (by omega) (by omega)).mono ?_
      rintro e w2 ⟨rfl, rfl⟩
      have hbl := bitF_lt2 S (d : Int)
      have hb01 : bitF S (d : Int) = 0 ∨ bitF S (d : Int) = 1 := by omega
      rcases hb01 with hb0 | hb0
      · rw [hb0]
        have HB := Lib.hid hb0
        clear hb0 hbl
        go_wp2
        go_roundw
        case rel =>
          refine ⟨f', halfI r d 0, d + 1, by omega, HG.out.half 0, HAB.out.1, fun x hx => HSUB.out x ((mem_half x).1 hx).1, fun l hl => (mem_half _).2 ⟨HIN.out l hl, ?_⟩, trivial⟩
          have := HB.out
          rw [HSK.out ⟨l, hl⟩] at this
          exact this
        case measure =>
          rw [HMM.out]
          have := findM_le (by omega) (HG.out.half 0) HAB.out.1
          omega
      · rw [hb0]
        have HB := Lib.hid hb0
        clear hb0 hbl
        go_wp2
        go_roundw
        case rel =>
          refine ⟨f', halfI r d 1, d + 1, by omega, HG.out.half 1, HAB.out.2, fun x hx => HSUB.out x ((mem_half x).1 hx).1, fun l hl => (mem_half _).2 ⟨HIN.out l hl, ?_⟩, trivial⟩
          have := HB.out
          rw [HSK.out ⟨l, hl⟩] at this
          exact this
        case measure =>
          rw [HMM.out]
          have := findM_le (by omega) (HG.out.half 1) HAB.out.2
          omega
    · have hlen := tlen_any _ _ _ hp
      rw [hc] at hlen
      rcases r with _ | ⟨x, _ | ⟨y, r⟩⟩
      · rw [tree_nil] at hp
        have e : _ = Value.pointer none := hp
        subst e
        have HLEN := Lib.hid hlen
        clear hlen hp hc hg
        go_wp2_with fail
        refine HLEN.out.mono ?_
        rintro e w1 ⟨rfl, rfl⟩
        rw [show (([] : List It).length : Int) = 0 from rfl]
        go_wp2
        go_ret
        exact ⟨_, rfl, ⟨fun l hl => absurd (HIN.out l hl) (by simp), fun _ => rfl⟩, rfl⟩
      · rw [tree_one] at hp
        have HP := Lib.hid hp
        obtain ⟨g, A, c, rfl, h0, _⟩ := hp
        have HLEN := Lib.hid hlen
        have hxm : x ∈ m := HSUB.out x (List.mem_cons_self ..)
        have hkk := HKK.out x hxm
        have HXM := Lib.hid hxm
        by_cases hx : x.1 = k
        · have he : ((keyOf x.1).toList == K.toList) = true := by rw [hkk.2 hx]; simp
          have HX := Lib.hid hx
          clear hlen hc hg h2 hxm hkk hx
          generalize keyOf x.1 = Kx at *
          go_wp2_with fail
          refine HLEN.out.mono ?_
          rintro e w1 ⟨rfl, rfl⟩
          rw [show (([x] : List It).length : Int) = 1 from rfl]
          go_wp2
          go_ret
          refine ⟨_, rfl, ⟨fun l hl => ?_, fun hno => ?_⟩, rfl⟩
          · have := HIN.out l hl
            rw [List.mem_singleton] at this
            have h := HP.out
            rw [← this] at h
            exact h
          · refine absurd HXM.out ?_
            have := hno x.2
            rw [← HX.out] at this
            exact this
        · have he : ((keyOf x.1).toList == K.toList) = false := by
            rw [beq_eq_false_iff_ne, ne_eq, toList_inj]
            exact fun h => hx (hkk.1 h)
          have HX := Lib.hid hx
          clear hlen hc hg h2 hxm hkk hx
          generalize keyOf x.1 = Kx at *
          go_wp2_with fail
          refine HLEN.out.mono ?_
          rintro e w1 ⟨rfl, rfl⟩
          rw [show (([x] : List It).length : Int) = 1 from rfl]
          go_wp2
          go_ret
          refine ⟨_, rfl, ⟨fun l hl => ?_, fun _ => rfl⟩, rfl⟩
          have := HIN.out l hl
          rw [List.mem_singleton] at this
          exact absurd (by rw [← this]) HX.out
      · simp at h2

end Go.Proofs.YtpbjianhkjjgkaaDoor

namespace Go.Proofs.YtpbjianhkjjgkaaDoor
open Go.RowKit

theorem Good.del {m : List It} {d k : Nat} (h : Good m d) : Good (delI m k) d := h.sub (asc_del k h.asc) fun x hx => ((mem_del x).1 hx).1
theorem tree_cnt1 {f d : Nat} {m : List It} (hd : d + f = 256) (hg : Good m d) (h : (tree f m d).cnt = 1) : ∃ x, m = [x] := by
  rw [tree_cnt f m d hd hg] at h
  rcases m with _ | ⟨x, _ | ⟨y, m⟩⟩
  · simp at h
  · exact ⟨x, rfl⟩
  · simp at h

set_option maxHeartbeats 4000000 in
theorem onlyOne_any (pa pb : Option Addr) (w : World) : Calls Tryd.prog 98 #[.pointer pa, .pointer pb] w fun e w' => e = .returned (.pointer (if pa = none then pb else pa)) ∧ w' = w := by
  rcases pa with _ | a
  · rw [if_pos rfl]
    go_enter Tryd.func98, Tryd.ntmps98
    go_wp2
    go_ret
    exact ⟨rfl, rfl⟩
  · rw [if_neg (by simp)]
    go_enter Tryd.func98, Tryd.ntmps98
    go_wp2
    go_ret
    exact ⟨rfl, rfl⟩

/-- What is left of two halves of which one holds the only item. -/
theorem only_tree {f d : Nat} {m : List It} (_ : d + (f + 1) = 256) (hg : Good m d) {w : World} {pa pb : Option Addr} (ha : TreeAt w (tree f (halfI m d 0) (d + 1)) (.pointer pa)) (hb : TreeAt w (tree f (halfI m d 1) (d + 1)) (.pointer pb)) (h1 : m.length = 1) :
    TreeAt w (tree (f + 1) m d) (.pointer (if pa = none then pb else pa)) := by
  rcases m with _ | ⟨x, _ | ⟨y, m⟩⟩
  · simp at h1
  · rw [tree_half_one] at ha hb
    rw [tree_one]
    rcases bitU_01 x.1 d with e | e
    · rw [if_pos e] at ha
      obtain ⟨g, A, c, hp, rest⟩ := id ha
      injection hp with hp
      subst hp
      rw [if_neg (by simp)]
      exact ha
    · rw [if_neg (by omega)] at ha
      rw [if_pos e] at hb
      have hp : Value.pointer pa = .pointer none := ha
      injection hp with hp
      subst hp
      rw [if_pos rfl]
      exact hb
  · simp at h1

set_option maxHeartbeats 8000000 in
theorem twithout_any : ∀ (f : Nat) (m : List It) (d k : Nat) (l : List UInt8) (v : Value) (w : World), d + f = 256 → Good m d → (k, l) ∈ m → m.length ≤ 100000 → TreeAt w (tree f m d) v → Tab w →
    Calls Tryd.prog 73 #[v, .string (sumOf k)] w fun e w' => ∃ u, e = .returned u ∧ TreeAt w' (tree f (delI m k) d) u ∧ Below w.heap.size w w' := by
  have one : ∀ (f : Nat) (x : It) (d k : Nat) (l : List UInt8) (v : Value) (w : World), (k, l) ∈ [x] → TreeAt w (tree f [x] d) v →
      Calls Tryd.prog 73 #[v, .string (sumOf k)] w fun e w' => ∃ u, e = .returned u ∧ TreeAt w' (tree f (delI [x] k) d) u ∧ Below w.heap.size w w' := by
    intro f x d k l v w hx hv
    rw [List.mem_singleton] at hx
    subst hx
    have e : delI [(k, l)] k = [] := by simp [delI]
    rw [e, tree_nil]
    rw [tree_one] at hv
    have HLEN := Lib.hid (tlen_any _ _ _ hv)
    obtain ⟨p, rfl⟩ := hv.ptr
    generalize sumOf k = S at *
    clear hv
    go_enter Tryd.func73, Tryd.ntmps73
    go_wp2_with fail
    refine HLEN.out.mono ?_
    rintro e w1 ⟨rfl, rfl⟩
    rw [show (Tr.leaf k l).cnt = 1 from rfl]
    go_wp2
    go_ret
    exact ⟨_, rfl, rfl, Below.refl _ _⟩
  intro f
  induction f with
  | zero =>
    intro m d k l v w hd hg hk hlen hv ht
    by_cases h2 : 2 ≤ m.length
    · have := hg.room h2
      omega
    · rcases m with _ | ⟨x, _ | ⟨y, m⟩⟩
      · cases hk
      · exact one 0 x d k l v w hk hv
      · simp at h2
  | succ f ih =>
    intro m d k l v w hd hg hk hlen hv ht
    by_cases h2 : 2 ≤ m.length
    · have hdl := del_len hg.asc hk
      dsimp only at hdl
      have hgd := hg.del (k := k)
      have hcv := tree_cnt (f + 1) m d hd hg
      have hhd := fun b => half_del hg.asc k d b
      have hlenv := tlen_any _ _ _ hv
      rw [hcv] at hlenv
      have hk0 := fun b (hb : bitU k d = b) => (mem_half (k, l) (m := m) (d := d) (b := b)).2 ⟨hk, hb⟩
      have hih := fun b (v : Value) (W : World) (hb : bitU k d = b) (hv : TreeAt W (tree f (halfI m d b) (d + 1)) v) (htW : Tab W) => ih (halfI m d b) (d + 1) k l v W (by omega) (hg.half b) (hk0 b hb) (Nat.le_trans (List.length_filter_le _ _) hlen) hv htW
      have hcd := half_count (delI m k) d
      have hc0 := tree_cnt f (halfI (delI m k) d 0) (d + 1) (by omega) (hgd.half 0)
      have hc1 := tree_cnt f (halfI (delI m k) d 1) (d + 1) (by omega) (hgd.half 1)
      rw [tree_two h2] at hv
      obtain ⟨g, pa, pb, rfl, c2, c3, c4, c5, c6, hcc, ha, hb⟩ := hv
      obtain ⟨qa, rfl⟩ := ha.ptr
      obtain ⟨qb, rfl⟩ := hb.ptr
      have HAB := Lib.hid (And.intro ha hb)
      have HLEN := Lib.hid hlenv
      have HIH := Lib.hid hih
      have HD0 := Lib.hid (show bitU k d = 0 → ∀ (W : World) (u q : Value), TreeAt W (tree f (delI (halfI m d 0) k) (d + 1)) u → TreeAt W (tree f (halfI m d 1) (d + 1)) q → TreeAt W (tree f (halfI (delI m k) d 0) (d + 1)) u ∧ TreeAt W (tree f (halfI (delI m k) d 1) (d + 1)) q from fun hb W u q hu hq => by
        rw [hhd 0, hhd 1, if_pos hb, if_neg (by omega)]
        exact ⟨hu, hq⟩)
      have HD1 := Lib.hid (show bitU k d = 1 → ∀ (W : World) (u q : Value), TreeAt W (tree f (delI (halfI m d 1) k) (d + 1)) u → TreeAt W (tree f (halfI m d 0) (d + 1)) q → TreeAt W (tree f (halfI (delI m k) d 0) (d + 1)) q ∧ TreeAt W (tree f (halfI (delI m k) d 1) (d + 1)) u from fun hb W u q hu hq => by
        rw [hhd 0, hhd 1, if_neg (by omega), if_pos hb]
        exact ⟨hq, hu⟩)
      have HF1 := Lib.hid (fun (W : World) (pa pb : Option Addr) (ha : TreeAt W (tree f (halfI (delI m k) d 0) (d + 1)) (.pointer pa)) (hb : TreeAt W (tree f (halfI (delI m k) d 1) (d + 1)) (.pointer pb)) (h1 : (delI m k).length = 1) => only_tree hd hgd ha hb h1)
      have HF2 := Lib.hid (fun (h : 2 ≤ (delI m k).length) => tree_two (f := f) (d := d) h)
      have hdm : (delI m k).length ≤ 100000 := by omega
      obtain ⟨n0, hn0⟩ : ∃ n0, (halfI (delI m k) d 0).length = n0 := ⟨_, rfl⟩
      obtain ⟨n1, hn1⟩ : ∃ n1, (halfI (delI m k) d 1).length = n1 := ⟨_, rfl⟩
      rw [hn0] at hcd hc0
      rw [hn1] at hcd hc1
      rw [← hcd] at HF1 HF2 hdm hdl
      have HL0 := Lib.hid (show ∀ (W : World) (u : Value), TreeAt W (tree f (halfI (delI m k) d 0) (d + 1)) u → Calls Tryd.prog 25 #[u] W (fun e W' => e = .returned (.int .i64 (n0 : Int)) ∧ W' = W) from fun W u h => by
        have := tlen_any _ _ _ h
        rw [hc0] at this
        exact this)
      have HL1 := Lib.hid (show ∀ (W : World) (u : Value), TreeAt W (tree f (halfI (delI m k) d 1) (d + 1)) u → Calls Tryd.prog 25 #[u] W (fun e W' => e = .returned (.int .i64 (n1 : Int)) ∧ W' = W) from fun W u h => by
        have := tlen_any _ _ _ h
        rw [hc1] at this
        exact this)
      have HCC := Lib.hid (And.intro hc0 hc1)
      have hwr : IntKind.i64.wrap ((n0 : Int) + (n1 : Int)) = (n0 : Int) + (n1 : Int) := IntWalk.i64_in _ (by omega)
      obtain ⟨n, hn⟩ : ∃ n, m.length = n := ⟨_, rfl⟩
      rw [hn] at HLEN hdl h2
      have d1 : ((n : Int) == 1) = false := by simp; omega
      clear ih hih hhd hcd hc0 hc1 hlenv ha hb hcc c5 c6 hk0 hcv hn hn0 hn1
      go_enter Tryd.func73, Tryd.ntmps73
      go_wp2_with fail
      refine HLEN.out.mono ?_
      rintro e w1 ⟨rfl, rfl⟩
      rename World => w1
      go_wp2
      go_quiet (fail)
      have hD := belT w1 nq
      have hbD : Below w1.heap.size w1 (w1.drewN nq) := hD
      have c4 := cell_below hD c4
      have ha := HAB.out.1.below hD
      have hb := HAB.out.2.below hD
      have htD := Tab.below ht hD
      clear HAB HLEN c2 c3 ht
      generalize w1.drewN nq = w2 at *
      rcases bitU_01 k d with hbit | hbit
      · have HB := Lib.hid hbit
        clear hbit
        go_wp2_with fail
        refine (bit_any (sumOf k) (d : Int) _ (by rw [sumOf_size]; omega) (by omega) (by omega)).mono ?_
        rw [show bitF (sumOf k) (d : Int) = 0 from HB.out]
        rintro e w2b ⟨rfl, rfl⟩
        go_wp2_with fail
        refine (HIH.out 0 _ _ HB.out ha htD).mono ?_
        rintro e w3 ⟨u, rfl, hu, hb3⟩
        have hb := hb.below hb3
        have c4 := cell_below hb3 c4
        have ht3 := Tab.below htD hb3
        have hbw := Below.next' hbD hb3 hbD.size
        obtain ⟨qu, rfl⟩ := hu.ptr
        obtain ⟨hx, hy⟩ := HD0.out HB.out _ _ _ hu hb
        clear hu ha hb hb3 hbD htD
        go_wp2_with fail
        refine (HL0.out _ _ hx).mono ?_
        rintro e w4 ⟨rfl, rfl⟩
        go_wp2_with fail
        refine (HL1.out _ _ hy).mono ?_
        rintro e w5 ⟨rfl, rfl⟩
        by_cases h1 : n0 + n1 = 1
        · have e1 : ((n0 : Int) + (n1 : Int) == 1) = true := by simp; omega
          have hfin := HF1.out _ _ _ hx hy h1
          go_wp2_with fail
          refine (onlyOne_any _ _ _).mono ?_
          generalize (if qu = none then qb else qu) = r at hfin ⊢
          rintro e w6 ⟨rfl, rfl⟩
          go_wp2
          go_ret
          exact ⟨_, rfl, hfin, hbw⟩
        · have e1 : ((n0 : Int) + (n1 : Int) == 1) = false := by simp; omega
          go_wp2_with fail
          refine (tnode_any _ _ _ _ d _ hx hy (by have := HCC.out; omega) (by have := HCC.out; omega) ht3).mono ?_
          rintro e w6 ⟨v, rfl, hv, hb6⟩
          obtain ⟨qv, rfl⟩ := hv.ptr
          go_wp2
          go_ret
          refine ⟨_, rfl, ?_, Below.next' hbw hb6 hbw.size⟩
          rw [HF2.out (by omega)]
          exact hv
      · have HB := Lib.hid hbit
        clear hbit
        go_wp2_with fail
        refine (bit_any (sumOf k) (d : Int) _ (by rw [sumOf_size]; omega) (by omega) (by omega)).mono ?_
        rw [show bitF (sumOf k) (d : Int) = 1 from HB.out]
        rintro e w2b ⟨rfl, rfl⟩
        go_wp2_with fail
        refine (HIH.out 1 _ _ HB.out hb htD).mono ?_
        rintro e w3 ⟨u, rfl, hu, hb3⟩
        have ha := ha.below hb3
        have c4 := cell_below hb3 c4
        have ht3 := Tab.below htD hb3
        have hbw := Below.next' hbD hb3 hbD.size
        obtain ⟨qu, rfl⟩ := hu.ptr
        obtain ⟨hx, hy⟩ := HD1.out HB.out _ _ _ hu ha
        clear hu ha hb hb3 hbD htD
        go_wp2_with fail
        refine (HL0.out _ _ hx).mono ?_
        rintro e w4 ⟨rfl, rfl⟩
        go_wp2_with fail
        refine (HL1.out _ _ hy).mono ?_
        rintro e w5 ⟨rfl, rfl⟩
        by_cases h1 : n0 + n1 = 1
        · have e1 : ((n0 : Int) + (n1 : Int) == 1) = true := by simp; omega
          have hfin := HF1.out _ _ _ hx hy h1
          go_wp2_with fail
          refine (onlyOne_any _ _ _).mono ?_
          generalize (if qa = none then qu else qa) = r at hfin ⊢
          rintro e w6 ⟨rfl, rfl⟩
          go_wp2
          go_ret
          exact ⟨_, rfl, hfin, hbw⟩
        · have e1 : ((n0 : Int) + (n1 : Int) == 1) = false := by simp; omega
          go_wp2_with fail
          refine (tnode_any _ _ _ _ d _ hx hy (by have := HCC.out; omega) (by have := HCC.out; omega) ht3).mono ?_
          rintro e w6 ⟨v, rfl, hv, hb6⟩
          obtain ⟨qv, rfl⟩ := hv.ptr
          go_wp2
          go_ret
          refine ⟨_, rfl, ?_, Below.next' hbw hb6 hbw.size⟩
          rw [HF2.out (by omega)]
          exact hv
    · rcases m with _ | ⟨x, _ | ⟨y, m⟩⟩
      · cases hk
      · exact one (f + 1) x d k l v w hk hv
      · simp at h2

end Go.Proofs.YtpbjianhkjjgkaaDoor

namespace Go.Proofs.YtpbjianhkjjgkaaDoor
open Go.RowKit

theorem Its.del {m : List It} (h : Its m) (k : Nat) : Its (delI m k) := ⟨asc_del k h.1, fun x hx => h.2 x ((mem_del x).1 hx).1⟩
theorem del_none {m : List It} {k : Nat} (h : ∀ l, (k, l) ∉ m) : delI m k = m := by
  unfold delI
  rw [List.filter_eq_self]
  rintro ⟨j, l⟩ hx
  have : j ≠ k := fun e => h l (e ▸ hx)
  simpa using this
theorem Its.keys {m : List It} (h : Its m) {k : Nat} (hk : k < 280) : ∀ x ∈ m, keyOf x.1 = keyOf k ↔ x.1 = k :=
  fun x hx => ⟨fun e => keyOf_inj (h.2 x hx) hk e, fun e => by rw [e]⟩

set_option maxHeartbeats 4000000 in
theorem tdel_any (m : List It) (k : Nat) (v : Value) (w : World) (hm : Its m) (hk : k < 280) (hv : TreeAt w (tree 256 m 0) v) (ht : Tab w) :
    Calls Tryd.prog 30 #[v, .string (keyOf k)] w fun e w' => ∃ u, e = .returned u ∧ TreeAt w' (tree 256 (delI m k) 0) u ∧ Below w.heap.size w w' := by
  have hks := keyOf_size k
  have hsu : (⟨(sha (keyOf k).data.toList).toArray⟩ : ByteArray) = sumOf k := by rw [keyOf_list]; rfl
  have hgm := Good.root hm.1 hm.2
  have hml := its_len hm
  have hss := sumOf_size k
  have HSU := Lib.hid hsu
  have HKS := Lib.hid (hm.keys hk)
  obtain ⟨p, rfl⟩ := hv.ptr
  clear hsu
  by_cases hin : ∃ l, (k, l) ∈ m
  · obtain ⟨l, hin⟩ := hin
    have HIN := Lib.hid hin
    clear hin
    go_enter Tryd.func30, Tryd.ntmps30
    go_wp2_with fail
    refine (keySum_any (keyOf k) _ (by omega) ht).mono ?_
    rw [HSU.out]
    rintro e w2 ⟨rfl, hb2⟩
    have hv2 := hv.below hb2
    have ht2 := Tab.below ht hb2
    clear hv
    go_wp2_with fail
    refine (tfind_any m (keyOf k) k _ _ hm HKS.out hv2 (sumOf k) (by omega) (fun _ => rfl)).mono ?_
    rintro e w3 ⟨u, rfl, hu, rfl⟩
    obtain ⟨g, A, c, rfl, _⟩ := hu.1 l HIN.out
    clear hu
    go_wp2_with fail
    refine (twithout_any 256 m 0 k l _ _ rfl hgm HIN.out (by omega) hv2 ht2).mono ?_
    rintro e w4 ⟨u, rfl, hu, hb4⟩
    obtain ⟨q, rfl⟩ := hu.ptr
    go_wp2
    go_ret
    exact ⟨_, rfl, hu, Below.next' hb2 hb4 hb2.size⟩
  · have hno : ∀ l, (k, l) ∉ m := fun l h => hin ⟨l, h⟩
    rw [del_none hno]
    have HNO := Lib.hid hno
    clear hno hin
    go_enter Tryd.func30, Tryd.ntmps30
    go_wp2_with fail
    refine (keySum_any (keyOf k) _ (by omega) ht).mono ?_
    rw [HSU.out]
    rintro e w2 ⟨rfl, hb2⟩
    have hv2 := hv.below hb2
    clear hv
    go_wp2_with fail
    refine (tfind_any m (keyOf k) k _ _ hm HKS.out hv2 (sumOf k) (by omega) (fun _ => rfl)).mono ?_
    rintro e w3 ⟨u, rfl, hu, rfl⟩
    have e := hu.2 HNO.out
    subst e
    clear hu
    go_wp2
    go_ret
    exact ⟨_, rfl, hv2, hb2⟩

end Go.Proofs.YtpbjianhkjjgkaaDoor
