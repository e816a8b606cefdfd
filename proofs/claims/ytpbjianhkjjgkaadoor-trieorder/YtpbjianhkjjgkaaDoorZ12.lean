/-
  Texts of one claim, joined.
-/
import Derived.Test.YtpbjianhkjjgkaaDoorZ10
import Derived.Test.YtpbjianhkjjgkaaDoorZ11
namespace Go.Proofs.YtpbjianhkjjgkaaDoor
open Go.RowKit

theorem belT (w : World) (k : Nat) : Below w.heap.size w (w.drewN k) := ⟨rfl, rfl, rfl, Nat.le_refl _, fun _ _ => rfl⟩
/-- The value v is the tree t. -/
def TreeAt (w : World) : Tr → Value → Prop
  | .nil, v => v = .pointer none
  | .leaf u l, v => ∃ g A c, v = .pointer (some ⟨g, 0, none⟩) ∧ w.cell? ⟨g, 0, none⟩ = some (.string (keyOf u)) ∧ w.cell? ⟨g, 1, none⟩ = some (.slice A l.length c) ∧ w.cell? ⟨g, 4, none⟩ = some (.int .i64 0) ∧
      w.cell? ⟨g, 5, none⟩ = some (.string ⟨(Tr.leaf u l).dig.toArray⟩) ∧ w.cell? ⟨g, 6, none⟩ = some (.int .i64 1) ∧ Seg w A l.length l ∧ l.length ≤ 100000
  | .node a b d, v => ∃ g pa pb, v = .pointer (some ⟨g, 0, none⟩) ∧ w.cell? ⟨g, 2, none⟩ = some pa ∧ w.cell? ⟨g, 3, none⟩ = some pb ∧ w.cell? ⟨g, 4, none⟩ = some (.int .i64 (d : Int)) ∧
      w.cell? ⟨g, 5, none⟩ = some (.string ⟨(Tr.node a b d).dig.toArray⟩) ∧ w.cell? ⟨g, 6, none⟩ = some (.int .i64 ((Tr.node a b d).cnt : Int)) ∧ 2 ≤ (Tr.node a b d).cnt ∧ TreeAt w a pa ∧ TreeAt w b pb
theorem TreeAt.below {w w' : World} (hb : Below w.heap.size w w') : ∀ {t : Tr} {v : Value}, TreeAt w t v → TreeAt w' t v := by
  intro t
  induction t with
  | nil => intro v h; exact h
  | leaf u l =>
    rintro v ⟨g, A, c, e, h0, h1, h4, h5, h6, hs, hl⟩
    exact ⟨g, A, c, e, cell_below hb h0, cell_below hb h1, cell_below hb h4, cell_below hb h5, cell_below hb h6, hs.below hb, hl⟩
  | node a b d iha ihb =>
    rintro v ⟨g, pa, pb, e, h2, h3, h4, h5, h6, hc, ha, hbb⟩
    exact ⟨g, pa, pb, e, cell_below hb h2, cell_below hb h3, cell_below hb h4, cell_below hb h5, cell_below hb h6, hc, iha ha, ihb hbb⟩
theorem TreeAt.ptr {w : World} {t : Tr} {v : Value} (h : TreeAt w t v) : ∃ p, v = .pointer p := by
  rcases t with _ | ⟨u, l⟩ | ⟨a, b, d⟩
  · exact ⟨none, h⟩
  · obtain ⟨g, A, c, e, _⟩ := h
    exact ⟨_, e⟩
  · obtain ⟨g, pa, pb, e, _⟩ := h
    exact ⟨_, e⟩
theorem Tr.dig_size (t : Tr) : (⟨t.dig.toArray⟩ : ByteArray).size = 32 := by
  show t.dig.toArray.size = 32
  rw [List.size_toArray, Tr.dig_len]

theorem tlen_any (t : Tr) (v : Value) (w : World) (h : TreeAt w t v) : Calls Tryd.prog 25 #[v] w fun e w' => e = .returned (.int .i64 (t.cnt : Int)) ∧ w' = w := by
  rcases t with _ | ⟨u, l⟩ | ⟨a, b, d⟩
  · have e : v = .pointer none := h
    subst e
    exact nlen_nil w
  · obtain ⟨g, A, c, rfl, h0, h1, h4, h5, h6, hs, hl⟩ := h
    clear h0 h1 h4 h5 hs hl
    show Calls _ _ _ _ fun e w' => e = .returned (.int .i64 1) ∧ w' = w
    go_enter Tryd.func25, Tryd.ntmps25
    go_wp2
    go_ret
    exact ⟨rfl, rfl⟩
  · obtain ⟨g, pa, pb, rfl, h2, h3, h4, h5, h6, hc, ha, hb⟩ := h
    clear h2 h3 h4 h5 ha hb
    generalize (Tr.node a b d).cnt = n at *
    go_enter Tryd.func25, Tryd.ntmps25
    go_wp2
    go_ret
    exact ⟨rfl, rfl⟩
theorem tdig_any (t : Tr) (v : Value) (w : World) (h : TreeAt w t v) (ht : Tab w) : Calls Tryd.prog 23 #[v] w fun e w' => e = .returned (.string ⟨t.dig.toArray⟩) ∧ Below w.heap.size w w' := by
  rcases t with _ | ⟨u, l⟩ | ⟨a, b, d⟩
  · have e : v = .pointer none := h
    subst e
    exact ndigest_nil w ht
  · obtain ⟨g, A, c, rfl, h0, h1, h4, h5, h6, hs, hl⟩ := h
    clear h0 h1 h4 h6 hs hl
    generalize (⟨(Tr.leaf u l).dig.toArray⟩ : ByteArray) = D at *
    go_enter Tryd.func23, Tryd.ntmps23
    go_wp2
    go_ret
    exact ⟨rfl, Below.refl _ _⟩
  · obtain ⟨g, pa, pb, rfl, h2, h3, h4, h5, h6, hc, ha, hb⟩ := h
    clear h2 h3 h4 h6 hc ha hb
    generalize (⟨(Tr.node a b d).dig.toArray⟩ : ByteArray) = D at *
    go_enter Tryd.func23, Tryd.ntmps23
    go_wp2
    go_ret
    exact ⟨rfl, Below.refl _ _⟩

set_option maxHeartbeats 4000000 in
theorem tnode_any (a b : Tr) (pa pb : Value) (d : Nat) (w : World) (ha : TreeAt w a pa) (hb : TreeAt w b pb) (h2 : 2 ≤ a.cnt + b.cnt) (hm : a.cnt + b.cnt ≤ 1000000) (ht : Tab w) :
    Calls Tryd.prog 96 #[pa, pb, .int .i64 (d : Int)] w fun e w' => ∃ v, e = .returned v ∧ TreeAt w' (.node a b d) v ∧ Below w.heap.size w w' := by
  obtain ⟨p, rfl⟩ := ha.ptr
  obtain ⟨q, rfl⟩ := hb.ptr
  have hda := fun W (h : Below w.heap.size w W) => tdig_any a _ W (ha.below h) (Tab.below ht h)
  have hdb := fun W (h : Below w.heap.size w W) => tdig_any b _ W (hb.below h) (Tab.below ht h)
  have hla := fun W (h : Below w.heap.size w W) => tlen_any a _ W (ha.below h)
  have hlb := fun W (h : Below w.heap.size w W) => tlen_any b _ W (hb.below h)
  have hsa := a.dig_size
  have hsb := b.dig_size
  have hD : (⟨(sha (nodeL (⟨a.dig.toArray⟩ : ByteArray).data.toList (⟨b.dig.toArray⟩ : ByteArray).data.toList)).toArray⟩ : ByteArray) = ⟨(Tr.node a b d).dig.toArray⟩ := by simp [Tr.dig]
  have hC : (Tr.node a b d).cnt = a.cnt + b.cnt := rfl
  have hT : ∀ (W : World) (v : Value), (∃ g, v = .pointer (some ⟨g, 0, none⟩) ∧ W.cell? ⟨g, 2, none⟩ = some (.pointer p) ∧ W.cell? ⟨g, 3, none⟩ = some (.pointer q) ∧ W.cell? ⟨g, 4, none⟩ = some (.int .i64 (d : Int)) ∧
      W.cell? ⟨g, 5, none⟩ = some (.string ⟨(Tr.node a b d).dig.toArray⟩) ∧ W.cell? ⟨g, 6, none⟩ = some (.int .i64 ((a.cnt + b.cnt : Nat) : Int))) → Below w.heap.size w W → TreeAt W (.node a b d) v := by
    rintro W v ⟨g, e, c2, c3, c4, c5, c6⟩ hW
    exact ⟨g, _, _, e, c2, c3, c4, c5, by rw [hC]; exact c6, by rw [hC]; exact h2, ha.below hW, hb.below hW⟩
  generalize (⟨a.dig.toArray⟩ : ByteArray) = Da at *
  generalize (⟨b.dig.toArray⟩ : ByteArray) = Db at *
  generalize (⟨(Tr.node a b d).dig.toArray⟩ : ByteArray) = D at *
  generalize a.cnt = na at *
  generalize b.cnt = nb at *
  have hw : IntKind.i64.wrap ((na : Int) + (nb : Int)) = ((na + nb : Nat) : Int) := by rw [IntWalk.i64_in _ (by omega)]; omega
  have HT := Lib.hid hT
  have HD := Lib.hid hD
  have HDA := Lib.hid hda
  have HDB := Lib.hid hdb
  have HLA := Lib.hid hla
  have HLB := Lib.hid hlb
  clear hT hD hda hdb hla hlb ha hb hC
  go_enter Tryd.func96, Tryd.ntmps96
  go_wp2_with fail
  refine (HDA.out _ (Below.refl _ _)).mono ?_
  rintro e w1 ⟨rfl, hb1⟩
  go_wp2_with fail
  refine (HDB.out _ hb1).mono ?_
  rintro e w2 ⟨rfl, hb2⟩
  have hbw2 := Below.next' hb1 hb2 hb1.size
  clear hb1 hb2
  go_wp2_with fail
  refine (node_any Da Db _ (by omega) (by omega) (Tab.below ht hbw2)).mono ?_
  rw [HD.out]
  rintro e w3 ⟨rfl, hb3⟩
  have hbw3 := Below.next' hbw2 hb3 hbw2.size
  clear hbw2 hb3
  go_wp2_with fail
  refine (HLA.out _ hbw3).mono ?_
  rintro e w4 ⟨rfl, rfl⟩
  go_wp2_with fail
  refine (HLB.out _ hbw3).mono ?_
  rintro e w5 ⟨rfl, rfl⟩
  go_wp2
  go_ret
  refine ⟨_, rfl, HT.out _ _ ⟨_, rfl, by simp, by simp, by simp, by simp, by simp⟩ ?_, ?_⟩
  · exact hbw3.alloc hbw3.size _
  · exact hbw3.alloc hbw3.size _

/-- What a tree has in its halves; a leaf goes whole into one of them. -/
def Tr.parts : Tr → Nat → Tr × Tr
  | .nil, _ => (.nil, .nil)
  | .leaf u l, d => if bitU u d = 0 then (.leaf u l, .nil) else (.nil, .leaf u l)
  | .node a b _, _ => (a, b)
theorem Tr.parts_tree {f d : Nat} {m : List It} (h0 : m ≠ []) : (tree (f + 1) m d).parts d = (tree f (halfI m d 0) (d + 1), tree f (halfI m d 1) (d + 1)) := by
  by_cases h2 : 2 ≤ m.length
  · rw [tree_two h2]
    rfl
  · rcases m with _ | ⟨x, _ | ⟨y, m⟩⟩
    · exact absurd rfl h0
    · rw [tree_one, tree_half_one, tree_half_one]
      show (if bitU x.1 d = 0 then (Tr.leaf x.1 x.2, Tr.nil) else (Tr.nil, Tr.leaf x.1 x.2)) = _
      rcases bitU_01 x.1 d with e | e
      · rw [if_pos e, if_pos e, if_neg (show ¬ bitU x.1 d = 1 by omega)]
      · rw [if_neg (show ¬ bitU x.1 d = 0 by omega), if_neg (show ¬ bitU x.1 d = 0 by omega), if_pos e]
    · simp at h2

set_option maxHeartbeats 4000000 in
theorem tparted_any (t : Tr) (v : Value) (d : Nat) (w : World) (h : TreeAt w t v) (hn : t ≠ .nil) (hd : d ≤ 1000000) (ht : Tab w) :
    Calls Tryd.prog 95 #[v, .int .i64 (d : Int)] w fun e w' => ∃ pa pb, e = .returned (.tuple #[pa, pb]) ∧ TreeAt w' (t.parts d).1 pa ∧ TreeAt w' (t.parts d).2 pb ∧ Below w.heap.size w w' := by
  have hlen := tlen_any t v w h
  rcases t with _ | ⟨u, l⟩ | ⟨a, b, dd⟩
  · exact absurd rfl hn
  · obtain ⟨g, A, c, rfl, h0, h1, h4, h5, h6, hs, hl⟩ := h
    have hall : TreeAt w (.leaf u l) (.pointer (some ⟨g, 0, none⟩)) := ⟨g, A, c, rfl, h0, h1, h4, h5, h6, hs, hl⟩
    have hks := keyOf_size u
    have hke := keyOf_list u
    have HLEN := Lib.hid hlen
    have HALL := Lib.hid hall
    have HK := Lib.hid (keySum_any (keyOf u) w (by omega) ht)
    have HSU := Lib.hid (show (⟨(sha (keyOf u).data.toList).toArray⟩ : ByteArray) = sumOf u by rw [hke]; rfl)
    clear hlen hall h1 h4 h5 h6 hs hl hks hke
    generalize keyOf u = K at *
    rcases bitU_01 u d with hb | hb
    · go_enter Tryd.func95, Tryd.ntmps95
      go_wp2_with fail
      refine HLEN.out.mono ?_
      rintro e w1 ⟨rfl, rfl⟩
      rw [show (Tr.leaf u l).cnt = 1 from rfl]
      go_wp2_with fail
      refine HK.out.mono ?_
      rw [HSU.out]
      rintro e w2 ⟨rfl, hb2⟩
      go_wp2_with fail
      refine (bit_any (sumOf u) (d : Int) _ (by rw [sumOf_size]; omega) (by omega) (by omega)).mono ?_
      rw [show bitF (sumOf u) (d : Int) = 0 from hb]
      rintro e w3 ⟨rfl, rfl⟩
      go_wp2
      go_ret2
      refine ⟨_, _, rfl, ?_, ?_, hb2⟩
      · rw [show (Tr.leaf u l).parts d = (.leaf u l, .nil) from if_pos hb]
        exact HALL.out.below hb2
      · rw [show (Tr.leaf u l).parts d = (.leaf u l, .nil) from if_pos hb]
        rfl
    · go_enter Tryd.func95, Tryd.ntmps95
      go_wp2_with fail
      refine HLEN.out.mono ?_
      rintro e w1 ⟨rfl, rfl⟩
      rw [show (Tr.leaf u l).cnt = 1 from rfl]
      go_wp2_with fail
      refine HK.out.mono ?_
      rw [HSU.out]
      rintro e w2 ⟨rfl, hb2⟩
      go_wp2_with fail
      refine (bit_any (sumOf u) (d : Int) _ (by rw [sumOf_size]; omega) (by omega) (by omega)).mono ?_
      rw [show bitF (sumOf u) (d : Int) = 1 from hb]
      rintro e w3 ⟨rfl, rfl⟩
      go_wp2
      go_ret2
      refine ⟨_, _, rfl, ?_, ?_, hb2⟩
      · rw [show (Tr.leaf u l).parts d = (.nil, .leaf u l) from if_neg (by omega)]
        rfl
      · rw [show (Tr.leaf u l).parts d = (.nil, .leaf u l) from if_neg (by omega)]
        exact HALL.out.below hb2
  · obtain ⟨g, pa, pb, rfl, h2, h3, h4, h5, h6, hc, ha, hb⟩ := h
    obtain ⟨p, rfl⟩ := ha.ptr
    obtain ⟨q, rfl⟩ := hb.ptr
    have HLEN := Lib.hid hlen
    have HA := Lib.hid (And.intro ha hb)
    clear hlen h4 h5 h6 ha hb
    generalize (Tr.node a b dd).cnt = n at *
    have d1 : decide ((1 : Int) < (n : Int)) = true := decide_eq_true (by omega)
    go_enter Tryd.func95, Tryd.ntmps95
    go_wp2_with fail
    refine HLEN.out.mono ?_
    rintro e w1 ⟨rfl, rfl⟩
    go_wp2
    go_quiet (fail)
    go_wp2
    go_ret2
    have hD := belT w1 nq
    exact ⟨_, _, rfl, HA.out.1.below hD, HA.out.2.below hD, hD⟩

end Go.Proofs.YtpbjianhkjjgkaaDoor

namespace Go.Proofs.YtpbjianhkjjgkaaDoor
open Go.RowKit

theorem half_lens {f d k : Nat} {l : List UInt8} {m : List It} (hd : d + (f + 1) = 256) (hg : Good (putI m k l) d) (h2 : 2 ≤ (putI m k l).length) :
    tree (f + 1) (putI m k l) d = .node (tree f (halfI (putI m k l) d 0) (d + 1)) (tree f (halfI (putI m k l) d 1) (d + 1)) d ∧
    (tree f (halfI (putI m k l) d 0) (d + 1)).cnt + (tree f (halfI (putI m k l) d 1) (d + 1)).cnt = (putI m k l).length := by
  refine ⟨tree_two h2, ?_⟩
  rw [tree_cnt f _ _ (by omega) (hg.half 0), tree_cnt f _ _ (by omega) (hg.half 1)]
  exact half_count _ _

set_option maxHeartbeats 8000000 in
theorem with_ne (f : Nat) (m : List It) (d k : Nat) (l : List UInt8) (g gl : Nat) (w : World) (hd : d + (f + 1) = 256) (hg : Good (putI m k l) d) (hm : Asc m) (h0 : m ≠ []) (h2 : 2 ≤ (putI m k l).length) (hlen : (putI m k l).length ≤ 100000)
    (x : It) (hx : m = [x]) (hkx : keyOf x.1 ≠ keyOf k) (hgm : Good m d)
    (hv : TreeAt w (tree (f + 1) m d) (.pointer (some ⟨g, 0, none⟩))) (hvl : TreeAt w (.leaf k l) (.pointer (some ⟨gl, 0, none⟩))) (ht : Tab w)
    (hih : ∀ (b : Nat) (v : Value) (W : World), TreeAt W (tree f (halfI m d b) (d + 1)) v → TreeAt W (.leaf k l) (.pointer (some ⟨gl, 0, none⟩)) → Tab W → bitU k d = b →
      Calls Tryd.prog 70 #[v, .pointer (some ⟨gl, 0, none⟩), .string (sumOf k), .int .i64 ((d : Int) + 1)] W fun e W' => ∃ u, e = .returned u ∧ TreeAt W' (tree f (putI (halfI m d b) k l) (d + 1)) u ∧ Below W.heap.size W W') :
    Calls Tryd.prog 70 #[.pointer (some ⟨g, 0, none⟩), .pointer (some ⟨gl, 0, none⟩), .string (sumOf k), .int .i64 (d : Int)] w fun e w' => ∃ u, e = .returned u ∧ TreeAt w' (tree (f + 1) (putI m k l) d) u ∧ Below w.heap.size w w' := by
  obtain ⟨hres, hcnt⟩ := half_lens hd hg h2
  have hput := fun b => half_put hm k l d b
  have HRES0 := Lib.hid (show bitU k d = 0 → Tr.node (tree f (putI (halfI m d 0) k l) (d + 1)) (tree f (halfI m d 1) (d + 1)) d = tree (f + 1) (putI m k l) d from fun hb => by
    rw [hres, hput 0, hput 1, if_pos hb, if_neg (by omega)])
  have HRES1 := Lib.hid (show bitU k d = 1 → Tr.node (tree f (halfI m d 0) (d + 1)) (tree f (putI (halfI m d 1) k l) (d + 1)) d = tree (f + 1) (putI m k l) d from fun hb => by
    rw [hres, hput 0, hput 1, if_neg (by omega), if_pos hb])
  have HCNT0 := Lib.hid (show bitU k d = 0 → 2 ≤ (tree f (putI (halfI m d 0) k l) (d + 1)).cnt + (tree f (halfI m d 1) (d + 1)).cnt ∧ (tree f (putI (halfI m d 0) k l) (d + 1)).cnt + (tree f (halfI m d 1) (d + 1)).cnt ≤ 1000000 from fun hb => by
    rw [hput 0, hput 1, if_pos hb, if_neg (by omega)] at hcnt
    omega)
  have HCNT1 := Lib.hid (show bitU k d = 1 → 2 ≤ (tree f (halfI m d 0) (d + 1)).cnt + (tree f (putI (halfI m d 1) k l) (d + 1)).cnt ∧ (tree f (halfI m d 0) (d + 1)).cnt + (tree f (putI (halfI m d 1) k l) (d + 1)).cnt ≤ 1000000 from fun hb => by
    rw [hput 0, hput 1, if_neg (by omega), if_pos hb] at hcnt
    omega)
  have HPART := Lib.hid (Tr.parts_tree (f := f) (d := d) h0)
  have HIH := Lib.hid hih
  have hwr : IntKind.i64.wrap ((d : Int) + 1) = (d : Int) + 1 := IntWalk.i64_in _ (by omega)
  have hcm := tree_cnt (f + 1) m d hd hgm
  have hcm1 : (tree (f + 1) m d).cnt = 1 := by rw [hcm, hx]; rfl
  have HLEN := Lib.hid hcm1
  have hnn : tree (f + 1) m d ≠ .nil := by rw [hx, tree_one]; intro h; cases h
  have x0 : w.cell? ⟨g, 0, none⟩ = some (.string (keyOf x.1)) := by
    rw [hx, tree_one] at hv
    obtain ⟨g', A', c', e, h0, _⟩ := hv
    injection e with e
    injection e with e
    injection e with e
    subst e
    exact h0
  have x1 : w.cell? ⟨gl, 0, none⟩ = some (.string (keyOf k)) := by
    obtain ⟨g', A', c', e, h0, _⟩ := hvl
    injection e with e
    injection e with e
    injection e with e
    subst e
    exact h0
  have hke : ((keyOf x.1).toList == (keyOf k).toList) = false := by
    rw [beq_eq_false_iff_ne, ne_eq, toList_inj]
    exact hkx
  clear hres hcnt hput hih hcm hcm1 hkx hx
  generalize keyOf x.1 = Kx at *
  generalize hKk : keyOf k = Kk at *
  clear hKk
  · go_enter Tryd.func70, Tryd.ntmps70
    go_wp2
    refine wp_region_noPanic (wp_region_tills (fun W' => W'.cell? ⟨g, 0, none⟩ = some (.string Kx) ∧ W'.cell? ⟨gl, 0, none⟩ = some (.string Kk)) (fun j => decide (17 ≤ j)) (by kernel_rfl) ?_)
    have hD := belT w 1
    have hv := hv.below hD
    have hvl := hvl.below hD
    have hbw : Below w.heap.size w (w.drewN 1) := hD
    have x0 := cell_below hD x0
    have x1 := cell_below hD x1
    change wpAnyS _ _ _ _ _ _ 18 _ _ (w.drewN 1)
    clear hD
    generalize w.drewN 1 = w1 at *
    refine wpAnyS_take (i := 0) (v := .pointer (some ⟨g, 0, none⟩)) rfl (by kernel_rfl) (fun _ _ _ h => h) ⟨x0, x1⟩ (Or.inl ⟨by kernel_rfl, fun W' hW => by obtain ⟨q0, q1⟩ := hW; go_simp⟩) ?_
    refine wpAnyS_take (i := 1) (v := .bool false) rfl (by kernel_rfl) (fun _ _ _ h => h) ⟨x0, x1⟩ (Or.inl ⟨by kernel_rfl, fun W' hW => by obtain ⟨q0, q1⟩ := hW; go_simp⟩) ?_
    refine wpAnyS_take (i := 2) (v := .bool false) rfl (by kernel_rfl) (fun _ _ _ h => h) ⟨x0, x1⟩ (Or.inl ⟨by kernel_rfl, fun W' hW => by obtain ⟨q0, q1⟩ := hW; go_simp⟩) ?_
    refine wpAnyS_take (i := 3) (v := .pointer (some ⟨g, 0, none⟩)) rfl (by kernel_rfl) (fun _ _ _ h => h) ⟨x0, x1⟩ (Or.inl ⟨by kernel_rfl, fun W' hW => by obtain ⟨q0, q1⟩ := hW; go_simp⟩) ?_
    refine wpAnyS_stepg 4 rfl (by decide +kernel) (by kernel_rfl) ?_
    go_wp2_with fail
    refine (tlen_any _ _ _ hv).mono ?_
    rintro e w2 ⟨rfl, rfl⟩
    rw [HLEN.out]
    go_wp2_with fail
    refine ⟨.inr ⟨x0, x1⟩, ?_⟩
    refine wpAnyS_take (i := 5) (v := .bool true) rfl (by kernel_rfl) (fun _ _ _ h => h) ⟨x0, x1⟩ (Or.inl ⟨by kernel_rfl, fun W' hW => by obtain ⟨q0, q1⟩ := hW; go_simp⟩) ?_
    refine wpAnyS_take (i := 6) (v := .bool true) rfl (by kernel_rfl) (fun _ _ _ h => h) ⟨x0, x1⟩ (Or.inl ⟨by kernel_rfl, fun W' hW => by obtain ⟨q0, q1⟩ := hW; go_simp⟩) ?_
    refine wpAnyS_take (i := 7) (v := .pointer (some ⟨g, 0, none⟩)) rfl (by kernel_rfl) (fun _ _ _ h => h) ⟨x0, x1⟩ (Or.inl ⟨by kernel_rfl, fun W' hW => by obtain ⟨q0, q1⟩ := hW; go_simp⟩) ?_
    refine wpAnyS_take (i := 8) (v := .pointer (some ⟨g, 0, none⟩)) rfl (by kernel_rfl) (fun _ _ _ h => h) ⟨x0, x1⟩ (Or.inl ⟨by kernel_rfl, fun W' hW => by obtain ⟨q0, q1⟩ := hW; go_simp⟩) ?_
    refine wpAnyS_take (i := 9) (v := .pointer (some ⟨g, 0, none⟩)) rfl (by kernel_rfl) (fun _ _ _ h => h) ⟨x0, x1⟩ (Or.inl ⟨by kernel_rfl, fun W' hW => by obtain ⟨q0, q1⟩ := hW; go_simp⟩) ?_
    refine wpAnyS_take (i := 10) (v := .string Kx) rfl (by kernel_rfl) (fun _ _ _ h => h) ⟨x0, x1⟩ (Or.inl ⟨by kernel_rfl, fun W' hW => by obtain ⟨q0, q1⟩ := hW; go_simp⟩) ?_
    refine wpAnyS_take (i := 11) (v := .pointer (some ⟨gl, 0, none⟩)) rfl (by kernel_rfl) (fun _ _ _ h => h) ⟨x0, x1⟩ (Or.inl ⟨by kernel_rfl, fun W' hW => by obtain ⟨q0, q1⟩ := hW; go_simp⟩) ?_
    refine wpAnyS_take (i := 12) (v := .pointer (some ⟨gl, 0, none⟩)) rfl (by kernel_rfl) (fun _ _ _ h => h) ⟨x0, x1⟩ (Or.inl ⟨by kernel_rfl, fun W' hW => by obtain ⟨q0, q1⟩ := hW; go_simp⟩) ?_
    refine wpAnyS_take (i := 13) (v := .pointer (some ⟨gl, 0, none⟩)) rfl (by kernel_rfl) (fun _ _ _ h => h) ⟨x0, x1⟩ (Or.inl ⟨by kernel_rfl, fun W' hW => by obtain ⟨q0, q1⟩ := hW; go_simp⟩) ?_
    refine wpAnyS_take (i := 14) (v := .string Kk) rfl (by kernel_rfl) (fun _ _ _ h => h) ⟨x0, x1⟩ (Or.inl ⟨by kernel_rfl, fun W' hW => by obtain ⟨q0, q1⟩ := hW; go_simp⟩) ?_
    refine wpAnyS_take (i := 15) (v := .bool false) rfl (by kernel_rfl) (fun _ _ _ h => h) ⟨x0, x1⟩ (Or.inl ⟨by kernel_rfl, fun W' hW => by obtain ⟨q0, q1⟩ := hW; go_simp⟩) ?_
    refine wpAnyS_take (i := 16) (v := .bool false) rfl (by kernel_rfl) (fun _ _ _ h => h) ⟨x0, x1⟩ (Or.inl ⟨by kernel_rfl, fun W' hW => by obtain ⟨q0, q1⟩ := hW; go_simp⟩) ?_
    refine wpAnyS_step 17 rfl (by decide +kernel) ?_
    go_wp2_with fail
    refine ⟨.inl rfl, ?_⟩
    refine wpAnyS_done (by decide +kernel) (NoPanic.normal ?_)
    go_wp2_with fail
    refine (tparted_any _ _ d _ hv (by assumption) (by omega) (Tab.below ht hbw)).mono ?_
    rintro e w3 ⟨pa, pb, rfl, hpa, hpb, hb3⟩
    have hvl := hvl.below hb3
    have hbw := Below.next' hbw hb3 hbw.size
    rw [HPART.out] at hpa hpb
    obtain ⟨p, rfl⟩ := hpa.ptr
    obtain ⟨q, rfl⟩ := hpb.ptr
    clear hv hb3
    rcases bitU_01 k d with hbit | hbit
    · have HBIT := Lib.hid hbit
      clear hbit
      go_wp2_with fail
      refine (bit_any (sumOf k) (d : Int) _ (by rw [sumOf_size]; omega) (by omega) (by omega)).mono ?_
      rw [show bitF (sumOf k) (d : Int) = 0 from HBIT.out]
      rintro e w4 ⟨rfl, rfl⟩
      go_wp2_with fail
      refine (HIH.out 0 _ _ hpa hvl (Tab.below ht hbw) HBIT.out).mono ?_
      rintro e w5 ⟨u, rfl, hu, hb5⟩
      have hpb := hpb.below hb5
      have hbw := Below.next' hbw hb5 hbw.size
      obtain ⟨pu, rfl⟩ := hu.ptr
      go_wp2_with fail
      refine (tnode_any _ _ _ _ d _ hu hpb (HCNT0.out HBIT.out).1 (HCNT0.out HBIT.out).2 (Tab.below ht hbw)).mono ?_
      rw [HRES0.out HBIT.out]
      rintro e w6 ⟨r, rfl, hr, hb6⟩
      go_wp2
      go_ret
      exact ⟨_, rfl, hr, Below.next' hbw hb6 hbw.size⟩
    · have HBIT := Lib.hid hbit
      clear hbit
      go_wp2_with fail
      refine (bit_any (sumOf k) (d : Int) _ (by rw [sumOf_size]; omega) (by omega) (by omega)).mono ?_
      rw [show bitF (sumOf k) (d : Int) = 1 from HBIT.out]
      rintro e w4 ⟨rfl, rfl⟩
      go_wp2_with fail
      refine (HIH.out 1 _ _ hpb hvl (Tab.below ht hbw) HBIT.out).mono ?_
      rintro e w5 ⟨u, rfl, hu, hb5⟩
      have hpa := hpa.below hb5
      have hbw := Below.next' hbw hb5 hbw.size
      obtain ⟨pu, rfl⟩ := hu.ptr
      go_wp2_with fail
      refine (tnode_any _ _ _ _ d _ hpa hu (HCNT1.out HBIT.out).1 (HCNT1.out HBIT.out).2 (Tab.below ht hbw)).mono ?_
      rw [HRES1.out HBIT.out]
      rintro e w6 ⟨r, rfl, hr, hb6⟩
      go_wp2
      go_ret
      exact ⟨_, rfl, hr, Below.next' hbw hb6 hbw.size⟩

set_option maxHeartbeats 8000000 in
theorem with_node (f : Nat) (m : List It) (d k : Nat) (l : List UInt8) (g gl : Nat) (w : World) (hd : d + (f + 1) = 256) (hg : Good (putI m k l) d) (hm : Asc m) (h0 : m ≠ []) (h2 : 2 ≤ (putI m k l).length) (hlen : (putI m k l).length ≤ 100000)
    (hm2 : 2 ≤ m.length) (hgm : Good m d)
    (hv : TreeAt w (tree (f + 1) m d) (.pointer (some ⟨g, 0, none⟩))) (hvl : TreeAt w (.leaf k l) (.pointer (some ⟨gl, 0, none⟩))) (ht : Tab w)
    (hih : ∀ (b : Nat) (v : Value) (W : World), TreeAt W (tree f (halfI m d b) (d + 1)) v → TreeAt W (.leaf k l) (.pointer (some ⟨gl, 0, none⟩)) → Tab W → bitU k d = b →
      Calls Tryd.prog 70 #[v, .pointer (some ⟨gl, 0, none⟩), .string (sumOf k), .int .i64 ((d : Int) + 1)] W fun e W' => ∃ u, e = .returned u ∧ TreeAt W' (tree f (putI (halfI m d b) k l) (d + 1)) u ∧ Below W.heap.size W W') :
    Calls Tryd.prog 70 #[.pointer (some ⟨g, 0, none⟩), .pointer (some ⟨gl, 0, none⟩), .string (sumOf k), .int .i64 (d : Int)] w fun e w' => ∃ u, e = .returned u ∧ TreeAt w' (tree (f + 1) (putI m k l) d) u ∧ Below w.heap.size w w' := by
  obtain ⟨hres, hcnt⟩ := half_lens hd hg h2
  have hput := fun b => half_put hm k l d b
  have HRES0 := Lib.hid (show bitU k d = 0 → Tr.node (tree f (putI (halfI m d 0) k l) (d + 1)) (tree f (halfI m d 1) (d + 1)) d = tree (f + 1) (putI m k l) d from fun hb => by
    rw [hres, hput 0, hput 1, if_pos hb, if_neg (by omega)])
  have HRES1 := Lib.hid (show bitU k d = 1 → Tr.node (tree f (halfI m d 0) (d + 1)) (tree f (putI (halfI m d 1) k l) (d + 1)) d = tree (f + 1) (putI m k l) d from fun hb => by
    rw [hres, hput 0, hput 1, if_neg (by omega), if_pos hb])
  have HCNT0 := Lib.hid (show bitU k d = 0 → 2 ≤ (tree f (putI (halfI m d 0) k l) (d + 1)).cnt + (tree f (halfI m d 1) (d + 1)).cnt ∧ (tree f (putI (halfI m d 0) k l) (d + 1)).cnt + (tree f (halfI m d 1) (d + 1)).cnt ≤ 1000000 from fun hb => by
    rw [hput 0, hput 1, if_pos hb, if_neg (by omega)] at hcnt
    omega)
  have HCNT1 := Lib.hid (show bitU k d = 1 → 2 ≤ (tree f (halfI m d 0) (d + 1)).cnt + (tree f (putI (halfI m d 1) k l) (d + 1)).cnt ∧ (tree f (halfI m d 0) (d + 1)).cnt + (tree f (putI (halfI m d 1) k l) (d + 1)).cnt ≤ 1000000 from fun hb => by
    rw [hput 0, hput 1, if_neg (by omega), if_pos hb] at hcnt
    omega)
  have HPART := Lib.hid (Tr.parts_tree (f := f) (d := d) h0)
  have HIH := Lib.hid hih
  have hwr : IntKind.i64.wrap ((d : Int) + 1) = (d : Int) + 1 := IntWalk.i64_in _ (by omega)
  have hcm := tree_cnt (f + 1) m d hd hgm
  obtain ⟨nn, hnn1⟩ : ∃ nn, m.length = nn := ⟨_, rfl⟩
  rw [hnn1] at hcm hm2
  have HLEN := Lib.hid hcm
  have hn1 : ((nn : Int) == 1) = false := by simp; omega
  have hnn : tree (f + 1) m d ≠ .nil := by
    intro h
    rw [h] at hcm
    have : (0 : Nat) = nn := hcm
    omega
  clear hres hcnt hput hih hcm hnn1
  · go_enter Tryd.func70, Tryd.ntmps70
    go_wp2
    refine wp_region_noPanic (wp_region_tills (fun _ => True) (fun j => decide (17 ≤ j)) (by kernel_rfl) ?_)
    have hD := belT w 1
    have hv := hv.below hD
    have hvl := hvl.below hD
    have hbw : Below w.heap.size w (w.drewN 1) := hD
    change wpAnyS _ _ _ _ _ _ 18 _ _ (w.drewN 1)
    clear hD
    generalize w.drewN 1 = w1 at *
    refine wpAnyS_take (i := 0) (v := .pointer (some ⟨g, 0, none⟩)) rfl (by kernel_rfl) (fun _ _ _ h => h) trivial (Or.inl ⟨by kernel_rfl, fun W' hW => by skip; go_simp⟩) ?_
    refine wpAnyS_take (i := 1) (v := .bool false) rfl (by kernel_rfl) (fun _ _ _ h => h) trivial (Or.inl ⟨by kernel_rfl, fun W' hW => by skip; go_simp⟩) ?_
    refine wpAnyS_take (i := 2) (v := .bool false) rfl (by kernel_rfl) (fun _ _ _ h => h) trivial (Or.inl ⟨by kernel_rfl, fun W' hW => by skip; go_simp⟩) ?_
    refine wpAnyS_take (i := 3) (v := .pointer (some ⟨g, 0, none⟩)) rfl (by kernel_rfl) (fun _ _ _ h => h) trivial (Or.inl ⟨by kernel_rfl, fun W' hW => by skip; go_simp⟩) ?_
    refine wpAnyS_stepg 4 rfl (by decide +kernel) (by kernel_rfl) ?_
    go_wp2_with fail
    refine (tlen_any _ _ _ hv).mono ?_
    rintro e w2 ⟨rfl, rfl⟩
    rw [HLEN.out]
    go_wp2_with fail
    refine ⟨.inr trivial, ?_⟩
    refine wpAnyS_take (i := 5) (v := .bool false) rfl (by kernel_rfl) (fun _ _ _ h => h) trivial (Or.inl ⟨by kernel_rfl, fun W' hW => by skip; go_simp⟩) ?_
    refine wpAnyS_take (i := 6) (v := .bool false) rfl (by kernel_rfl) (fun _ _ _ h => h) trivial (Or.inl ⟨by kernel_rfl, fun W' hW => by skip; go_simp⟩) ?_
    refine wpAnyS_take (i := 7) (v := undef) rfl (by kernel_rfl) (fun _ _ _ h => h) trivial (Or.inr ⟨by kernel_rfl, rfl⟩) ?_
    refine wpAnyS_take (i := 8) (v := undef) rfl (by kernel_rfl) (fun _ _ _ h => h) trivial (Or.inr ⟨by kernel_rfl, rfl⟩) ?_
    refine wpAnyS_take (i := 9) (v := undef) rfl (by kernel_rfl) (fun _ _ _ h => h) trivial (Or.inr ⟨by kernel_rfl, rfl⟩) ?_
    refine wpAnyS_take (i := 10) (v := undef) rfl (by kernel_rfl) (fun _ _ _ h => h) trivial (Or.inr ⟨by kernel_rfl, rfl⟩) ?_
    refine wpAnyS_take (i := 11) (v := undef) rfl (by kernel_rfl) (fun _ _ _ h => h) trivial (Or.inr ⟨by kernel_rfl, rfl⟩) ?_
    refine wpAnyS_take (i := 12) (v := undef) rfl (by kernel_rfl) (fun _ _ _ h => h) trivial (Or.inr ⟨by kernel_rfl, rfl⟩) ?_
    refine wpAnyS_take (i := 13) (v := undef) rfl (by kernel_rfl) (fun _ _ _ h => h) trivial (Or.inr ⟨by kernel_rfl, rfl⟩) ?_
    refine wpAnyS_take (i := 14) (v := undef) rfl (by kernel_rfl) (fun _ _ _ h => h) trivial (Or.inr ⟨by kernel_rfl, rfl⟩) ?_
    refine wpAnyS_take (i := 15) (v := undef) rfl (by kernel_rfl) (fun _ _ _ h => h) trivial (Or.inr ⟨by kernel_rfl, rfl⟩) ?_
    refine wpAnyS_take (i := 16) (v := .bool false) rfl (by kernel_rfl) (fun _ _ _ h => h) trivial (Or.inl ⟨by kernel_rfl, fun W' hW => by skip; go_simp⟩) ?_
    refine wpAnyS_step 17 rfl (by decide +kernel) ?_
    go_wp2_with fail
    refine ⟨.inl rfl, ?_⟩
    refine wpAnyS_done (by decide +kernel) (NoPanic.normal ?_)
    go_wp2_with fail
    refine (tparted_any _ _ d _ hv (by assumption) (by omega) (Tab.below ht hbw)).mono ?_
    rintro e w3 ⟨pa, pb, rfl, hpa, hpb, hb3⟩
    have hvl := hvl.below hb3
    have hbw := Below.next' hbw hb3 hbw.size
    rw [HPART.out] at hpa hpb
    obtain ⟨p, rfl⟩ := hpa.ptr
    obtain ⟨q, rfl⟩ := hpb.ptr
    clear hv hb3
    rcases bitU_01 k d with hbit | hbit
    · have HBIT := Lib.hid hbit
      clear hbit
      go_wp2_with fail
      refine (bit_any (sumOf k) (d : Int) _ (by rw [sumOf_size]; omega) (by omega) (by omega)).mono ?_
      rw [show bitF (sumOf k) (d : Int) = 0 from HBIT.out]
      rintro e w4 ⟨rfl, rfl⟩
      go_wp2_with fail
      refine (HIH.out 0 _ _ hpa hvl (Tab.below ht hbw) HBIT.out).mono ?_
      rintro e w5 ⟨u, rfl, hu, hb5⟩
      have hpb := hpb.below hb5
      have hbw := Below.next' hbw hb5 hbw.size
      obtain ⟨pu, rfl⟩ := hu.ptr
      go_wp2_with fail
      refine (tnode_any _ _ _ _ d _ hu hpb (HCNT0.out HBIT.out).1 (HCNT0.out HBIT.out).2 (Tab.below ht hbw)).mono ?_
      rw [HRES0.out HBIT.out]
      rintro e w6 ⟨r, rfl, hr, hb6⟩
      go_wp2
      go_ret
      exact ⟨_, rfl, hr, Below.next' hbw hb6 hbw.size⟩
    · have HBIT := Lib.hid hbit
      clear hbit
      go_wp2_with fail
      refine (bit_any (sumOf k) (d : Int) _ (by rw [sumOf_size]; omega) (by omega) (by omega)).mono ?_
      rw [show bitF (sumOf k) (d : Int) = 1 from HBIT.out]
      rintro e w4 ⟨rfl, rfl⟩
      go_wp2_with fail
      refine (HIH.out 1 _ _ hpb hvl (Tab.below ht hbw) HBIT.out).mono ?_
      rintro e w5 ⟨u, rfl, hu, hb5⟩
      have hpa := hpa.below hb5
      have hbw := Below.next' hbw hb5 hbw.size
      obtain ⟨pu, rfl⟩ := hu.ptr
      go_wp2_with fail
      refine (tnode_any _ _ _ _ d _ hpa hu (HCNT1.out HBIT.out).1 (HCNT1.out HBIT.out).2 (Tab.below ht hbw)).mono ?_
      rw [HRES1.out HBIT.out]
      rintro e w6 ⟨r, rfl, hr, hb6⟩
      go_wp2
      go_ret
      exact ⟨_, rfl, hr, Below.next' hbw hb6 hbw.size⟩

set_option maxHeartbeats 8000000 in
theorem with_eq (x : Nat) (r : List UInt8) (d k : Nat) (l : List UInt8) (g gl : Nat) (s : ByteArray) (w : World) (hkx : keyOf x = keyOf k) (hv : TreeAt w (.leaf x r) (.pointer (some ⟨g, 0, none⟩))) (hvl : TreeAt w (.leaf k l) (.pointer (some ⟨gl, 0, none⟩))) :
    Calls Tryd.prog 70 #[.pointer (some ⟨g, 0, none⟩), .pointer (some ⟨gl, 0, none⟩), .string s, .int .i64 (d : Int)] w fun e w' => e = .returned (.pointer (some ⟨gl, 0, none⟩)) ∧ Below w.heap.size w w' := by
  have HLEN := Lib.hid (show (Tr.leaf x r).cnt = 1 from rfl)
  have x0 : w.cell? ⟨g, 0, none⟩ = some (.string (keyOf x)) := by
    obtain ⟨g', A', c', e, h0, _⟩ := hv
    injection e with e
    injection e with e
    injection e with e
    subst e
    exact h0
  have x1 : w.cell? ⟨gl, 0, none⟩ = some (.string (keyOf k)) := by
    obtain ⟨g', A', c', e, h0, _⟩ := hvl
    injection e with e
    injection e with e
    injection e with e
    subst e
    exact h0
  have hke : ((keyOf x).toList == (keyOf k).toList) = true := by rw [hkx]; simp
  clear hkx
  generalize keyOf x = Kx at *
  generalize keyOf k = Kk at *
  · go_enter Tryd.func70, Tryd.ntmps70
    go_wp2
    refine wp_region_noPanic (wp_region_tills (fun W' => W'.cell? ⟨g, 0, none⟩ = some (.string Kx) ∧ W'.cell? ⟨gl, 0, none⟩ = some (.string Kk)) (fun j => decide (17 ≤ j)) (by kernel_rfl) ?_)
    have hD := belT w 1
    have hv := hv.below hD
    have hvl := hvl.below hD
    have hbw : Below w.heap.size w (w.drewN 1) := hD
    have x0 := cell_below hD x0
    have x1 := cell_below hD x1
    change wpAnyS _ _ _ _ _ _ 18 _ _ (w.drewN 1)
    clear hD
    generalize w.drewN 1 = w1 at *
    refine wpAnyS_take (i := 0) (v := .pointer (some ⟨g, 0, none⟩)) rfl (by kernel_rfl) (fun _ _ _ h => h) ⟨x0, x1⟩ (Or.inl ⟨by kernel_rfl, fun W' hW => by obtain ⟨q0, q1⟩ := hW; go_simp⟩) ?_
    refine wpAnyS_take (i := 1) (v := .bool false) rfl (by kernel_rfl) (fun _ _ _ h => h) ⟨x0, x1⟩ (Or.inl ⟨by kernel_rfl, fun W' hW => by obtain ⟨q0, q1⟩ := hW; go_simp⟩) ?_
    refine wpAnyS_take (i := 2) (v := .bool false) rfl (by kernel_rfl) (fun _ _ _ h => h) ⟨x0, x1⟩ (Or.inl ⟨by kernel_rfl, fun W' hW => by obtain ⟨q0, q1⟩ := hW; go_simp⟩) ?_
    refine wpAnyS_take (i := 3) (v := .pointer (some ⟨g, 0, none⟩)) rfl (by kernel_rfl) (fun _ _ _ h => h) ⟨x0, x1⟩ (Or.inl ⟨by kernel_rfl, fun W' hW => by obtain ⟨q0, q1⟩ := hW; go_simp⟩) ?_
    refine wpAnyS_stepg 4 rfl (by decide +kernel) (by kernel_rfl) ?_
    go_wp2_with fail
    refine (tlen_any _ _ _ hv).mono ?_
    rintro e w2 ⟨rfl, rfl⟩
    rw [HLEN.out]
    go_wp2_with fail
    refine ⟨.inr ⟨x0, x1⟩, ?_⟩
    refine wpAnyS_take (i := 5) (v := .bool true) rfl (by kernel_rfl) (fun _ _ _ h => h) ⟨x0, x1⟩ (Or.inl ⟨by kernel_rfl, fun W' hW => by obtain ⟨q0, q1⟩ := hW; go_simp⟩) ?_
    refine wpAnyS_take (i := 6) (v := .bool true) rfl (by kernel_rfl) (fun _ _ _ h => h) ⟨x0, x1⟩ (Or.inl ⟨by kernel_rfl, fun W' hW => by obtain ⟨q0, q1⟩ := hW; go_simp⟩) ?_
    refine wpAnyS_take (i := 7) (v := .pointer (some ⟨g, 0, none⟩)) rfl (by kernel_rfl) (fun _ _ _ h => h) ⟨x0, x1⟩ (Or.inl ⟨by kernel_rfl, fun W' hW => by obtain ⟨q0, q1⟩ := hW; go_simp⟩) ?_
    refine wpAnyS_take (i := 8) (v := .pointer (some ⟨g, 0, none⟩)) rfl (by kernel_rfl) (fun _ _ _ h => h) ⟨x0, x1⟩ (Or.inl ⟨by kernel_rfl, fun W' hW => by obtain ⟨q0, q1⟩ := hW; go_simp⟩) ?_
    refine wpAnyS_take (i := 9) (v := .pointer (some ⟨g, 0, none⟩)) rfl (by kernel_rfl) (fun _ _ _ h => h) ⟨x0, x1⟩ (Or.inl ⟨by kernel_rfl, fun W' hW => by obtain ⟨q0, q1⟩ := hW; go_simp⟩) ?_
    refine wpAnyS_take (i := 10) (v := .string Kx) rfl (by kernel_rfl) (fun _ _ _ h => h) ⟨x0, x1⟩ (Or.inl ⟨by kernel_rfl, fun W' hW => by obtain ⟨q0, q1⟩ := hW; go_simp⟩) ?_
    refine wpAnyS_take (i := 11) (v := .pointer (some ⟨gl, 0, none⟩)) rfl (by kernel_rfl) (fun _ _ _ h => h) ⟨x0, x1⟩ (Or.inl ⟨by kernel_rfl, fun W' hW => by obtain ⟨q0, q1⟩ := hW; go_simp⟩) ?_
    refine wpAnyS_take (i := 12) (v := .pointer (some ⟨gl, 0, none⟩)) rfl (by kernel_rfl) (fun _ _ _ h => h) ⟨x0, x1⟩ (Or.inl ⟨by kernel_rfl, fun W' hW => by obtain ⟨q0, q1⟩ := hW; go_simp⟩) ?_
    refine wpAnyS_take (i := 13) (v := .pointer (some ⟨gl, 0, none⟩)) rfl (by kernel_rfl) (fun _ _ _ h => h) ⟨x0, x1⟩ (Or.inl ⟨by kernel_rfl, fun W' hW => by obtain ⟨q0, q1⟩ := hW; go_simp⟩) ?_
    refine wpAnyS_take (i := 14) (v := .string Kk) rfl (by kernel_rfl) (fun _ _ _ h => h) ⟨x0, x1⟩ (Or.inl ⟨by kernel_rfl, fun W' hW => by obtain ⟨q0, q1⟩ := hW; go_simp⟩) ?_
    refine wpAnyS_take (i := 15) (v := .bool true) rfl (by kernel_rfl) (fun _ _ _ h => h) ⟨x0, x1⟩ (Or.inl ⟨by kernel_rfl, fun W' hW => by obtain ⟨q0, q1⟩ := hW; go_simp⟩) ?_
    refine wpAnyS_take (i := 16) (v := .bool true) rfl (by kernel_rfl) (fun _ _ _ h => h) ⟨x0, x1⟩ (Or.inl ⟨by kernel_rfl, fun W' hW => by obtain ⟨q0, q1⟩ := hW; go_simp⟩) ?_
    refine wpAnyS_step 17 rfl (by decide +kernel) ?_
    go_wp2_with fail
    refine ⟨.inl rfl, ?_⟩
    refine wpAnyS_done (by decide +kernel) (NoPanic.normal ?_)
    go_wp2
    go_ret
    exact ⟨rfl, hbw⟩

end Go.Proofs.YtpbjianhkjjgkaaDoor
