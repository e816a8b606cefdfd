/-
  Texts of one claim, joined.
-/
import Derived.Test.YtpbjianhkjjgkaaDoorZ13
import Derived.Test.YtpbjianhkjjgkaaDoorZ09
import Derived.Deep.RegionHeld3
namespace Go.Proofs.YtpbjianhkjjgkaaDoor
open Go.RowKit

structure ItS where
  s : ByteArray
  A : Option Addr
  n : Nat
  c : Nat
def itLay : Lay ItS where
  z := 2
  cells s := [.string s.s, .slice s.A s.n s.c]
  len _ := rfl
  one c u hu := by simp at hu; rcases hu with rfl | rfl <;> rfl
  pos := by omega
theorem itT : ElT Tryd.prog itLay 26 43 (.agg #[.string ⟨#[]⟩, .slice none 0 0]) 40 := ⟨Tryd.underlying26, by kernel_rfl, rfl, by omega⟩
abbrev OwnI (w : World) (base : Nat) (v : Value) (S : List ItS) : Prop := OwnG itLay w base 43 v S
/-- A struct stands for an item. -/
def ItAt (w : World) (s : ItS) (x : It) : Prop := s.s = keyOf x.1 ∧ Seg w s.A s.n x.2 ∧ s.n ≤ s.c ∧ s.c ≤ maxLen
theorem ItAt.below {w w' : World} {s : ItS} {x : It} (h : ItAt w s x) (hb : Below w.heap.size w w') : ItAt w' s x := ⟨h.1, h.2.1.below hb, h.2.2⟩
/-- Structs stand for items, one for one. -/
def ItsAt (w : World) : List ItS → List It → Prop
  | [], [] => True
  | s :: S, x :: m => ItAt w s x ∧ ItsAt w S m
  | _, _ => False
theorem ItsAt.below {w w' : World} (hb : Below w.heap.size w w') : ∀ {S : List ItS} {m : List It}, ItsAt w S m → ItsAt w' S m
  | [], [], _ => trivial
  | _ :: _, _ :: _, h => ⟨h.1.below hb, ItsAt.below hb h.2⟩
  | [], _ :: _, h => h.elim
  | _ :: _, [], h => h.elim
theorem ItsAt.len {w : World} : ∀ {S : List ItS} {m : List It}, ItsAt w S m → S.length = m.length
  | [], [], _ => rfl
  | _ :: _, _ :: _, h => by rw [List.length_cons, List.length_cons, ItsAt.len h.2]
  | [], _ :: _, h => h.elim
  | _ :: _, [], h => h.elim
/-- What stands for a key's items stands for them when taken out by the key's text. -/
theorem ItsAt.del {w : World} {k : Nat} : ∀ {S : List ItS} {m : List It}, ItsAt w S m → (∀ x ∈ m, keyOf x.1 = keyOf k ↔ x.1 = k) → ItsAt w (S.filter fun s => decide (s.s ≠ keyOf k)) (delI m k)
  | [], [], _, _ => trivial
  | s :: S, x :: m, h, hk => by
    have ih := ItsAt.del h.2 fun x hx => hk x (List.mem_cons_of_mem _ hx)
    have h0 := hk x (List.mem_cons_self ..)
    unfold delI at ih ⊢
    rw [List.filter_cons, List.filter_cons]
    by_cases e : x.1 = k
    · have e1 : decide (s.s ≠ keyOf k) = false := by rw [decide_eq_false_iff_not]; exact fun h' => h' (by rw [h.1.1, h0.2 e])
      have e2 : decide (x.1 ≠ k) = false := by rw [decide_eq_false_iff_not]; exact fun h' => h' e
      rw [e1, e2, if_neg (by simp), if_neg (by simp)]
      exact ih
    · have e1 : decide (s.s ≠ keyOf k) = true := by rw [decide_eq_true_iff]; exact fun h' => e (h0.1 (by rw [← h.1.1, h']))
      have e2 : decide (x.1 ≠ k) = true := by rw [decide_eq_true_iff]; exact e
      rw [e1, e2, if_pos rfl, if_pos rfl]
      exact ⟨h.1, ih⟩
  | [], _ :: _, h, _ => h.elim
  | _ :: _, [], h, _ => h.elim

theorem filter_take_succ {α : Type} (p : α → Bool) (l : List α) (i : Nat) (hi : i < l.length) : (l.take (i + 1)).filter p = (l.take i).filter p ++ if p l[i] then [l[i]] else [] := by
  rw [List.take_add_one, List.getElem?_eq_getElem hi, Option.toList_some, List.filter_append]
  congr 1
  rw [List.filter_cons, List.filter_nil]

set_option maxHeartbeats 4000000 in
theorem rdel_any (A : Option Addr) (n c : Nat) (S : List ItS) (K : ByteArray) (w : World) (ha : SegG itLay w A n S) (hn : n ≤ 100000) :
    Calls Tryd.prog 61 #[.slice A n c, .string K] w fun e w' => ∃ v, e = .returned v ∧ OwnI w' w.heap.size v (S.filter fun s => decide (s.s ≠ K)) ∧ Below w.heap.size w w' := by
  have hsl := ha.1
  go_enter Tryd.func61, Tryd.ntmps61
  go_wp2_with fail
  go_loopw [5, 6] (fun v i w' => ∃ k : Nat, k ≤ n ∧ i = .int .i64 k ∧ OwnI w' w.heap.size v ((S.take k).filter fun s => decide (s.s ≠ K)) ∧ Below w.heap.size w w') (fun _ i _ => n - (intOf i).toNat)
  case atStart => exact ⟨0, by omega, rfl, OwnG.nil _ _ _, Below.refl _ _⟩
  case round =>
    obtain ⟨k, hk, rfl, hv, hb⟩ := hrel
    by_cases hlt : k < n
    · have hst := filter_take_succ (fun s : ItS => decide (s.s ≠ K)) S k (by omega)
      have HST := Lib.hid hst
      clear hst
      obtain ⟨g, o, rfl, hc⟩ := (ha.below hb).at_ hlt
      obtain ⟨e, he⟩ : ∃ e, S[k]'(by omega) = e := ⟨_, rfl⟩
      have x0 := hc 0 (.string e.s) (by rw [he]; rfl)
      have x1 := hc 1 (.slice e.A e.n e.c) (by rw [he]; rfl)
      rw [he] at HST
      have hdl : ((S.take k).filter fun s : ItS => decide (s.s ≠ K)).length ≤ k := Nat.le_trans (List.length_filter_le _ _) (by rw [List.length_take]; omega)
      obtain ⟨B, d, rfl, hsv, _, _⟩ := hv.forms
      rw [show itLay.z = 2 from rfl] at x0 x1
      rw [Nat.add_zero] at x0
      obtain ⟨es, eA, en, ec⟩ := e
      dsimp only at x0 x1 HST
      obtain ⟨D, hD⟩ : ∃ D, ((S.take k).filter fun s : ItS => decide (s.s ≠ K)) = D := ⟨_, rfl⟩
      rw [hD] at hdl hv HST hsv
      rw [hD]
      have HV := Lib.hid hv
      have HB := Lib.hid hb
      clear hc hv hb hsv he hD ha
      by_cases he : es = K
      · have hq : (es.toList == K.toList) = true := by rw [he]; simp
        rw [show decide (es ≠ K) = false by rw [decide_eq_false_iff_not]; exact fun h' => h' he] at HST
        go_wp2
        go_roundw
        case rel =>
          refine ⟨k + 1, by omega, by go_num, ?_, HB.out⟩
          rw [HST.out, if_neg (by simp), List.append_nil]
          exact HV.out
        case measure => simp [intOf]; omega
      · have hq : (es.toList == K.toList) = false := by
          rw [beq_eq_false_iff_ne, ne_eq, toList_inj]
          exact he
        rw [show decide (es ≠ K) = true by rw [decide_eq_true_iff]; exact he, if_pos rfl] at HST
        have hwz := HB.out.size
        go_wp2_with (
          at_builtin
          refine wpList_append_G _ rfl (.tmp 20) (.tmp 25) _ _ _ _ itT rfl w.heap.size (.slice B D.length d) D rfl (HV.out.alloc _) _ 1 1 [⟨es, eA, en, ec⟩] rfl (SegG.newAt _ _ _ _ _ _ rfl rfl rfl) (by omega) (by simp; omega) ?_
          intro v4 w4 hv4 hg4 hat4)
        go_roundw
        case rel =>
          refine ⟨k + 1, by omega, by go_num, ?_, below_grownG (HB.out.alloc hwz _) (HV.out.alloc _) hg4 (Nat.le_refl _) (by simp; omega)⟩
          rw [HST.out]
          exact hv4
        case measure => simp [intOf]; omega
    · obtain rfl : n = k := by omega
      have hS : S.take n = S := List.take_of_length_le (by omega)
      rw [hS] at hv
      go_wp2
      go_ret
      exact ⟨_, rfl, hv, hb⟩

end Go.Proofs.YtpbjianhkjjgkaaDoor

namespace Go.Proofs.YtpbjianhkjjgkaaDoor
open Go.RowKit

def bitK (s : ByteArray) (d : Nat) : Nat := bitF ⟨(sha s.data.toList).toArray⟩ (d : Int)
theorem bitK_key (u d : Nat) : bitK (keyOf u) d = bitU u d := by
  unfold bitK bitU sumOf
  rw [keyOf_list]
theorem ItsAt.half {w : World} {d b : Nat} : ∀ {S : List ItS} {m : List It}, ItsAt w S m → ItsAt w (S.filter fun s => decide (bitK s.s d = b)) (halfI m d b)
  | [], [], _ => trivial
  | s :: S, x :: m, h => by
    have ih := ItsAt.half (d := d) (b := b) h.2
    unfold halfI at ih ⊢
    rw [List.filter_cons, List.filter_cons, h.1.1, bitK_key]
    by_cases e : bitU x.1 d = b
    · rw [decide_eq_true e, if_pos rfl, if_pos rfl]
      exact ⟨h.1, ih⟩
    · rw [decide_eq_false e, if_neg (by simp), if_neg (by simp)]
      exact ih
  | [], _ :: _, h => h.elim
  | _ :: _, [], h => h.elim

set_option maxHeartbeats 4000000 in
theorem rhalf_any (A : Option Addr) (n c : Nat) (S : List ItS) (d b : Nat) (w : World) (ha : SegG itLay w A n S) (hn : n ≤ 100000) (hK : ∀ s ∈ S, s.s.size ≤ 1000) (hd : d ≤ 1000) :
    Calls Tryd.prog 37 #[.slice A n c, .int .i64 (d : Int), .int .i64 (b : Int)] w fun e w' => ∃ v, e = .returned v ∧ OwnI w' w.heap.size v (S.filter fun s => decide (bitK s.s d = b)) ∧ Below w.heap.size w w' := by
  have hsl := ha.1
  have HK := Lib.hid hK
  clear hK
  go_enter Tryd.func37, Tryd.ntmps37
  go_wp2_with fail
  go_loopw [7, 8] (fun v i w' => ∃ k : Nat, k ≤ n ∧ i = .int .i64 k ∧ OwnI w' w.heap.size v ((S.take k).filter fun s => decide (bitK s.s d = b)) ∧ Below w.heap.size w w') (fun _ i _ => n - (intOf i).toNat)
  case atStart => exact ⟨0, by omega, rfl, OwnG.nil _ _ _, Below.refl _ _⟩
  case round =>
    obtain ⟨k, hk, rfl, hv, hb⟩ := hrel
    by_cases hlt : k < n
    · have hst := filter_take_succ (fun s : ItS => decide (bitK s.s d = b)) S k (by omega)
      have HST := Lib.hid hst
      clear hst
      obtain ⟨g, o, rfl, hc⟩ := (ha.below hb).at_ hlt
      obtain ⟨e, he⟩ : ∃ e, S[k]'(by omega) = e := ⟨_, rfl⟩
      have hes := HK.out e (by rw [← he]; exact List.getElem_mem _)
      have x0 := hc 0 (.string e.s) (by rw [he]; rfl)
      have x1 := hc 1 (.slice e.A e.n e.c) (by rw [he]; rfl)
      rw [he] at HST
      have hdl : ((S.take k).filter fun s : ItS => decide (bitK s.s d = b)).length ≤ k := Nat.le_trans (List.length_filter_le _ _) (by rw [List.length_take]; omega)
      obtain ⟨B, q, rfl, hsv, _, _⟩ := hv.forms
      rw [show itLay.z = 2 from rfl] at x0 x1
      rw [Nat.add_zero] at x0
      obtain ⟨es, eA, en, ec⟩ := e
      dsimp only at x0 x1 HST hes
      obtain ⟨D, hD⟩ : ∃ D, ((S.take k).filter fun s : ItS => decide (bitK s.s d = b)) = D := ⟨_, rfl⟩
      rw [hD] at hdl hv HST hsv
      rw [hD]
      have HV := Lib.hid hv
      have HB := Lib.hid hb
      clear hc hv hb hsv he hD ha
      have kcv := fun W => Lib.run_convert_string_bytes (P := Tryd.prog) W 9 29 5 es Tryd.underlying9 Tryd.underlying29 Tryd.underlying5
      rename World => wr
      go_wp2_with fail
      have hb0 := bytesBelow wr 5 es
      refine (rsum_any _ es.size _ es.data.toList _ (bytesSeg wr 5 es) (by omega)).mono ?_
      rintro e w1 ⟨rfl, hb1⟩
      have hb2 := Below.next' hb0 hb1 hb0.size
      have x0 := cell_below hb2 x0
      have x1 := cell_below hb2 x1
      have HV := Lib.hid (HV.out.below hb2)
      have HB := Lib.hid (Below.next' HB.out hb2 HB.out.size)
      clear hb0 hb1 hb2
      go_wp2_with fail
      refine (rbit_any _ (d : Int) _ (by show (sha es.data.toList).toArray.size ≤ _; rw [List.size_toArray, sha_length]; omega) (by omega) (by omega)).mono ?_
      rw [show bitF ⟨(sha es.data.toList).toArray⟩ (d : Int) = bitK es d from rfl]
      rintro e w2 ⟨rfl, rfl⟩
      have hwz := HB.out.size
      by_cases hbe : bitK es d = b
      · have hq : ((bitK es d : Int) == (b : Int)) = true := by simp; omega
        rw [decide_eq_true hbe, if_pos rfl] at HST
        generalize bitK es d = t at *
        go_wp2_with (
          at_builtin
          refine wpList_append_G _ rfl (.tmp 26) (.tmp 31) _ _ _ _ itT rfl w.heap.size (.slice B D.length q) D rfl (HV.out.alloc _) _ 1 1 [⟨es, eA, en, ec⟩] rfl (SegG.newAt _ _ _ _ _ _ rfl rfl rfl) (by omega) (by simp; omega) ?_
          intro v4 w4 hv4 hg4 hat4)
        go_roundw
        case rel =>
          refine ⟨k + 1, by omega, by go_num, ?_, below_grownG (HB.out.alloc hwz _) (HV.out.alloc _) hg4 (Nat.le_refl _) (by simp; omega)⟩
          rw [HST.out]
          exact hv4
        case measure => simp [intOf]; omega
      · have hq : ((bitK es d : Int) == (b : Int)) = false := by simp; omega
        rw [decide_eq_false hbe] at HST
        generalize bitK es d = t at *
        go_wp2
        go_roundw
        case rel =>
          refine ⟨k + 1, by omega, by go_num, ?_, HB.out⟩
          rw [HST.out, if_neg (by simp), List.append_nil]
          exact HV.out
        case measure => simp [intOf]; omega
    · obtain rfl : n = k := by omega
      have hS : S.take n = S := List.take_of_length_le (by omega)
      rw [hS] at hv
      go_wp2
      go_ret
      exact ⟨_, rfl, hv, hb⟩

end Go.Proofs.YtpbjianhkjjgkaaDoor

namespace Go.Proofs.YtpbjianhkjjgkaaDoor
open Go.RowKit

theorem ItsAt.keys {w : World} : ∀ {S : List ItS} {m : List It}, ItsAt w S m → ∀ s ∈ S, s.s.size ≤ 1000
  | [], [], _, _, h => nomatch h
  | s :: S, x :: m, h, t, ht => by
    rcases List.mem_cons.1 ht with rfl | ht
    · rw [h.1.1, keyOf_size]; omega
    · exact ItsAt.keys h.2 t ht
  | [], _ :: _, h, _, _ => h.elim
  | _ :: _, [], h, _, _ => h.elim

set_option maxHeartbeats 8000000 in
theorem rdigest_one (f d : Nat) (x : It) (A : Option Addr) (n c : Nat) (S : List ItS) (w : World) (ha : SegG itLay w A n S) (hi : ItsAt w S [x]) (hl : x.2.length ≤ 100000) :
    Calls Tryd.prog 24 #[.slice A n c, .int .i64 (d : Int)] w fun e w' => e = .returned (.string ⟨(tree f [x] d).dig.toArray⟩) ∧ Below w.heap.size w w' := by
  obtain ⟨s, rfl⟩ : ∃ s, S = [s] := by
    rcases S with _ | ⟨s, _ | ⟨t, S⟩⟩
    · exact hi.elim
    · exact ⟨s, rfl⟩
    · exact hi.2.elim
  have hit := hi.1
  have hn : n = 1 := ha.1.symm
  subst hn
  obtain ⟨g, o, rfl, hc⟩ := ha.at_ (k := 0) (by omega)
  have x0 := hc 0 (.string s.s) rfl
  have x1 := hc 1 (.slice s.A s.n s.c) rfl
  rw [hit.1] at x0
  simp only [Nat.zero_mul, Nat.add_zero] at x0 x1
  have hsr := hit.2.1
  have hks := keyOf_size x.1
  have hln : s.n ≤ 100000 := by have := hsr.1; omega
  rw [tree_one]
  obtain ⟨D, hD⟩ : ∃ D, leafL (keyOf x.1).data.toList x.2 = D := ⟨_, rfl⟩
  have hfin : (⟨(sha D).toArray⟩ : ByteArray) = ⟨(Tr.leaf x.1 x.2).dig.toArray⟩ := by rw [← hD, keyOf_list]; rfl
  rw [← hfin]
  have HL := Lib.hid (show D.length ≤ 1000000 by
    rw [← hD, leafL_length, hsr.1, keyOf_list]
    have : (keyB x.1).length = 2 := by rw [← keyOf_list]; simpa using hks
    omega)
  have HD := Lib.hid hD
  clear hfin hD hc ha hi hit
  generalize keyOf x.1 = K at *
  obtain ⟨es, eA, en, ec⟩ := s
  dsimp only at *
  go_enter Tryd.func24, Tryd.ntmps24
  go_wp2_with fail
  go_region_held3 (fun W' => W'.cell? ⟨g, o, none⟩ = some (.string K) ∧ W'.cell? ⟨g, o + 1, none⟩ = some (.slice eA en ec) ∧ Below w.heap.size w W')
    (first | exact ⟨x0, x1, (Below.refl _ _).drew⟩ | exact ⟨cell_below hB x0, cell_below hB x1, hB⟩)
    (first
      | (go_at_call 60
         refine (rleafB_any K eA en ec x.2 _ (hsr.below (‹_ ∧ _ ∧ Below _ _ _›).2.2) (by omega) (by omega)).mono ?_
         rw [HD.out]
         rintro e w5 ⟨v5, rfl, ho5, hb5⟩
         obtain ⟨A5, c5, rfl, hs5, _, _⟩ := ho5.forms
         have hB : Below w.heap.size w w5 := Below.next (‹_ ∧ _ ∧ Below _ _ _›).2.2 hb5
         clear ho5)
      | (go_at_call 35
         refine (rsum_any A5 _ c5 D _ hs5 HL.out).mono ?_
         rintro e w6 ⟨rfl, hb6⟩
         have hB : Below w.heap.size w w6 := Below.next (‹_ ∧ _ ∧ Below _ _ _›).2.2 hb6))
  go_wp2
  go_ret
  exact ⟨rfl, hB⟩

set_option maxHeartbeats 8000000 in
theorem rdigest_any : ∀ (f : Nat) (m : List It) (d : Nat) (A : Option Addr) (n c : Nat) (S : List ItS) (w : World), d + f = 256 → Good m d → m.length ≤ 100000 → (∀ x ∈ m, x.2.length ≤ 100000) → SegG itLay w A n S → ItsAt w S m →
    Calls Tryd.prog 24 #[.slice A n c, .int .i64 (d : Int)] w fun e w' => e = .returned (.string ⟨(tree f m d).dig.toArray⟩) ∧ Below w.heap.size w w' := by
  have none_ : ∀ (f d : Nat) (A : Option Addr) (n c : Nat) (S : List ItS) (w : World), SegG itLay w A n S → ItsAt w S [] →
      Calls Tryd.prog 24 #[.slice A n c, .int .i64 (d : Int)] w fun e w' => e = .returned (.string ⟨(tree f [] d).dig.toArray⟩) ∧ Below w.heap.size w w' := by
    intro f d A n c S w ha hi
    have hn : n = 0 := by rw [← ha.1, hi.len]; rfl
    subst hn
    rw [tree_nil]
    clear ha hi
    go_enter Tryd.func24, Tryd.ntmps24
    go_wp2_with fail
    refine (rempty_any _).mono ?_
    rintro e w1 ⟨rfl, hb1⟩
    go_wp2
    go_ret
    exact ⟨rfl, hb1⟩
  intro f
  induction f with
  | zero =>
    intro m d A n c S w hd hg hlen hrl ha hi
    rcases m with _ | ⟨x, _ | ⟨y, m⟩⟩
    · exact none_ 0 d A n c S w ha hi
    · exact rdigest_one 0 d x A n c S w ha hi (hrl x (List.mem_cons_self ..))
    · have := hg.room (by simp)
      omega
  | succ f ih =>
    intro m d A n c S w hd hg hlen hrl ha hi
    by_cases h2 : 2 ≤ m.length
    · have hih := fun (b : Nat) (A : Option Addr) (n c : Nat) (S : List ItS) (W : World) (hs : SegG itLay W A n S) (hi : ItsAt W S (halfI m d b)) =>
        ih (halfI m d b) (d + 1) A n c S W (by omega) (hg.half b) (Nat.le_trans (List.length_filter_le _ _) hlen) (fun x hx => hrl x ((mem_half x).1 hx).1) hs hi
      rw [show (((d + 1 : Nat)) : Int) = (d : Int) + 1 by omega] at hih
      have hwr : IntKind.i64.wrap ((d : Int) + 1) = (d : Int) + 1 := IntWalk.i64_in _ (by omega)
      have hnl : n = m.length := by rw [← ha.1, hi.len]
      have hh := fun (b : Nat) (W : World) (hb : Below w.heap.size w W) => rhalf_any A n c S d b W (ha.below hb) (by omega) hi.keys (by omega)
      have hh0 := hh 0
      have hh1 := hh 1
      rw [show ((0 : Nat) : Int) = 0 from rfl] at hh0
      rw [show ((1 : Nat) : Int) = 1 from rfl] at hh1
      have hz0 := (tree f (halfI m d 0) (d + 1)).dig_size
      have hz1 := (tree f (halfI m d 1) (d + 1)).dig_size
      have hih0 := hih 0
      have hih1 := hih 1
      obtain ⟨X, hX⟩ : ∃ X : ByteArray, ⟨(tree f (halfI m d 0) (d + 1)).dig.toArray⟩ = X := ⟨_, rfl⟩
      obtain ⟨Y, hY⟩ : ∃ Y : ByteArray, ⟨(tree f (halfI m d 1) (d + 1)).dig.toArray⟩ = Y := ⟨_, rfl⟩
      obtain ⟨R, hR⟩ : ∃ R : ByteArray, ⟨(tree (f + 1) m d).dig.toArray⟩ = R := ⟨_, rfl⟩
      have hD : (⟨(sha (nodeL X.data.toList Y.data.toList)).toArray⟩ : ByteArray) = R := by
        rw [← hX, ← hY, ← hR, tree_two h2]; simp [Tr.dig]
      rw [hX] at hz0 hih0
      rw [hY] at hz1 hih1
      rw [hR]
      have HFIN := Lib.hid hD
      clear hX hY hR
      have d0 : ((n : Int) == 0) = false := by simp; omega
      have d1 : ((n : Int) == 1) = false := by simp; omega
      have d255 : decide ((255 : Int) < (d : Int)) = false := decide_eq_false (by omega)
      have HI := Lib.hid hi
      have HIH0 := Lib.hid hih0
      have HIH1 := Lib.hid hih1
      have HH0 := Lib.hid hh0
      have HH1 := Lib.hid hh1
      clear hih hih0 hih1 hh hh0 hh1 hD ih hi ha hg hrl none_ hnl
      go_enter Tryd.func24, Tryd.ntmps24
      go_wp2_with fail
      refine (HH0.out _ (Below.refl _ _)).mono ?_
      rintro e w1 ⟨v1, rfl, ho1, hb1⟩
      obtain ⟨A1, c1, rfl, hs1, _, _⟩ := ho1.forms
      have hi1 := (HI.out.below hb1).half (d := d) (b := 0)
      clear ho1
      go_wp2_with fail
      refine (HIH0.out _ _ _ _ _ hs1 hi1).mono ?_
      rintro e w2 ⟨rfl, hb2⟩
      have hbw := Below.next' hb1 hb2 hb1.size
      clear hs1 hi1 hb1 hb2
      go_wp2_with fail
      refine (HH1.out _ hbw).mono ?_
      rintro e w3 ⟨v1, rfl, ho1, hb1⟩
      obtain ⟨A1, c1, rfl, hs1, _, _⟩ := ho1.forms
      have hbw := Below.next' hbw hb1 hbw.size
      have hi1 := (HI.out.below hbw).half (d := d) (b := 1)
      clear ho1
      go_wp2_with fail
      refine (HIH1.out _ _ _ _ _ hs1 hi1).mono ?_
      rintro e w4 ⟨rfl, hb2⟩
      have hbw := Below.next' hbw hb2 hbw.size
      clear hs1 hi1 hb1 hb2
      go_wp2_with fail
      refine (rnodeB_any X Y _ (by omega) (by omega)).mono ?_
      rintro e w5 ⟨A5, c5, q, rfl, hs5, hq, hb5⟩
      have hbw := Below.next' hbw hb5 hbw.size
      have hql : q.length ≤ 1000000 := by
        rw [hq, nodeL_length]
        simp
        omega
      have HQ := Lib.hid hq
      clear hq
      go_wp2_with fail
      refine (rsum_any A5 _ c5 q _ hs5 hql).mono ?_
      rintro e w6 ⟨rfl, hb6⟩
      go_wp2
      go_ret
      have hfin := HFIN.out
      rw [← HQ.out] at hfin
      rw [← hfin]
      exact ⟨rfl, Below.next' hbw hb6 hbw.size⟩
    · rcases m with _ | ⟨x, _ | ⟨y, m⟩⟩
      · exact none_ _ d A n c S w ha hi
      · exact rdigest_one _ d x A n c S w ha hi (hrl x (List.mem_cons_self ..))
      · simp at h2

end Go.Proofs.YtpbjianhkjjgkaaDoor
