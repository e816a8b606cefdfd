/-
  The walks of Right: the program's, whose names are gathered in a map.
-/
import Derived.Test.YtcmagjeplofagaaPureQ
import Derived.Test.YtcmagjeplofagaaWT5
import Derived.Maps.OwnSet
namespace Go.Proofs.Ytcmagjeplofagaa
open Go.RowKit Go.Maps Go.WideMaps

def litS (s : ByteArray) : Lit := .string s.data.toList
def NamesOk (ss : List ByteArray) : Prop := (∀ s ∈ ss, nameOk s) ∧ ss.Nodup

theorem litS_inj {a b : ByteArray} (h : litS a = litS b) : a = b := by
  unfold litS at h
  injection h with h
  have h2 : a.data = b.data := Array.toList_inj.1 h
  cases a
  cases b
  simp_all
theorem litS_same (a b : ByteArray) : (litS a).sameKey (litS b) = true ↔ a = b := by
  unfold litS Lit.sameKey
  rw [beq_iff_eq]
  constructor
  · intro h
    exact litS_inj (by unfold litS; rw [h])
  · rintro rfl; rfl

theorem fold_len (ss : List ByteArray) : ∀ L : List ByteArray, ((ss.map litS).foldl addKey (L.map litS)).length ≤ L.length + ss.length ∧ (((ss.map litS).foldl addKey (L.map litS)).length = L.length + ss.length ↔ ss.Nodup ∧ ∀ s ∈ ss, s ∉ L) := by
  induction ss with
  | nil => intro L; simp
  | cons s ss ih =>
    intro L
    rw [List.map_cons, List.foldl_cons]
    have hany : (L.map litS).any (fun y => y.sameKey (litS s)) = true ↔ s ∈ L := by
      rw [List.any_eq_true]
      constructor
      · rintro ⟨y, hy, hs⟩
        obtain ⟨x, hx, rfl⟩ := List.mem_map.1 hy
        rw [litS_same] at hs
        rw [← hs]
        exact hx
      · intro h
        exact ⟨litS s, List.mem_map_of_mem h, (litS_same s s).2 rfl⟩
    by_cases h : s ∈ L
    · have e : addKey (L.map litS) (litS s) = L.map litS := by unfold addKey; rw [if_pos (hany.2 h)]
      rw [e]
      have h1 := (ih L).1
      rw [List.length_cons]
      refine ⟨by omega, ⟨fun h2 => by omega, fun h2 => absurd h (h2.2 s (by simp))⟩⟩
    · have e : addKey (L.map litS) (litS s) = (L ++ [s]).map litS := by
        unfold addKey
        rw [if_neg (fun h' => h (hany.1 h'))]
        simp
      rw [e]
      obtain ⟨h1, h2⟩ := ih (L ++ [s])
      rw [List.length_append, List.length_singleton] at h1 h2
      rw [List.length_cons]
      refine ⟨by omega, ?_⟩
      rw [show L.length + (ss.length + 1) = L.length + 1 + ss.length from by omega, h2, List.nodup_cons]
      constructor
      · rintro ⟨h3, h4⟩
        refine ⟨⟨fun h5 => by have := h4 s h5; simp at this, h3⟩, fun x hx => ?_⟩
        rcases List.mem_cons.1 hx with rfl | hx
        · exact h
        · intro h6
          have := h4 x hx
          simp at this
          exact this.1 h6
      · rintro ⟨⟨h3, h4⟩, h5⟩
        refine ⟨h4, fun x hx h6 => ?_⟩
        rcases List.mem_append.1 h6 with h6 | h6
        · exact h5 x (by simp [hx]) h6
        · simp at h6
          subst h6
          exact h3 hx
def setN (ss : List ByteArray) : DataW Unit := setOf (.agg []) (ss.map litS)
theorem setN_nil : setN [] = .map [] := rfl
theorem setN_snoc (ss : List ByteArray) (s : ByteArray) : setN (ss ++ [s]) = (setN ss).put (litS s) (.agg []) := by
  unfold setN
  rw [List.map_append, List.map_singleton, setOf_snoc]
theorem setN_size (ss : List ByteArray) : Maps.size (setN ss) ≤ ss.length ∧ (Maps.size (setN ss) = ss.length ↔ ss.Nodup) := by
  unfold setN
  rw [size_setOf _ _ (fun x hx => by obtain ⟨s, _, rfl⟩ := List.mem_map.1 hx; trivial)]
  have h := fold_len ss []
  simp at h
  exact h

theorem lawS : Keyed Try.prog 9 := string_keyed Try.underlying9

set_option maxHeartbeats 400000 in
theorem colName_any (x : Col) (w : World) : Calls Try.prog 56 #[.agg #[.string x.s, .int .u8 x.k, .bool x.b]] w fun e w' => e = .returned (.string x.s) ∧ Below w.heap.size w w' := by
  go_enter Try.func56, Try.ntmps56
  go_wp2
  go_ret
  exact ⟨rfl, (Below.refl _ _).alloc (Nat.le_refl _) _⟩
set_option maxHeartbeats 400000 in
theorem tblName_any (s : ByteArray) (v : Value) (k : Int) (w : World) (hv : ∃ A n c, v = .slice A n c) : Calls Try.prog 37 #[.agg #[.string s, v, .int .i64 k]] w fun e w' => e = .returned (.string s) ∧ Below w.heap.size w w' := by
  obtain ⟨A, n, c, rfl⟩ := hv
  go_enter Try.func37, Try.ntmps37
  go_wp2
  go_ret
  exact ⟨rfl, (Below.refl _ _).alloc (Nat.le_refl _) _⟩

def NamesP (ss : List ByteArray) (w : World) (e : Ending) (w' : World) : Prop := ∃ b, e = .returned (.bool b) ∧ (b = true ↔ NamesOk ss) ∧ Below w.heap.size w w'

set_option maxHeartbeats 1000000 in
set_option maxRecDepth 100000 in
theorem colNames_any (A : Option Addr) (n c : Nat) (cs : List Col) (w : World) (ha : SegC w A n cs) (hn : n ≤ 1000000) :
    Calls Try.prog 55 #[.slice A n c, .func (.func 56) #[] #[]] w (NamesP (cs.map Col.s) w) := by
  have hmm := @run_makeMap Try.prog
  have hl := ha.1
  go_enter Try.func55, Try.ntmps55
  go_wp2
  clear hmm
  go_loopw [12] (fun i wr => ∃ k : Nat, k ≤ n ∧ i = .int .i64 k ∧ (∀ s ∈ (cs.take k).map Col.s, nameOk s) ∧ wr.ownsMap Try.prog 9 (unitElem (H := Unit)) w.heap.size k (setN ((cs.take k).map Col.s)) ∧ Below w.heap.size w wr) (fun i _ => n - (intOf i).toNat)
  case atStart => exact ⟨0, Nat.zero_le _, rfl, by simp, by rw [List.take_zero, List.map_nil, setN_nil]; exact World.ownsMap_made _ _ _ _, (Below.refl _ _).alloc (Nat.le_refl _) _⟩
  case round =>
    obtain ⟨k, hk, rfl, hall, hown, hbw⟩ := hrel
    have HALL := Lib.hid hall
    clear hall
    by_cases hlt : k < n
    · obtain ⟨g, o, rfl, h0, h1, h2⟩ := SegC.at_ (SegG.below ha hbw) hlt
      have hmem : cs[k]'(by rw [ha.1]; exact hlt) ∈ cs := List.getElem_mem _
      have hts : (cs.take (k + 1)).map Col.s = (cs.take k).map Col.s ++ [(cs[k]'(by rw [ha.1]; exact hlt)).s] := by
        rw [List.take_succ_eq_append_getElem (by rw [ha.1]; exact hlt), List.map_append]; rfl
      generalize cs[k]'(by rw [ha.1]; exact hlt) = x at *
      have HTS := Lib.hid hts
      have HMEM := Lib.hid hmem
      clear hts hmem
      have hg := World.block_lt_of_cell? _ _ h0
      simp only at hg
      go_wp2_with fail
      refine (colName_any x _).mono ?_
      rintro e w2 ⟨rfl, hb2⟩
      have hbw2 : Below w.heap.size w w2 := Below.next' (hbw.alloc hbw.size _) hb2 (by have := hbw.size; simp; omega)
      have hown2 := (hown.alloc (.cells #[.string x.s, .int .u8 x.k, .bool x.b] 33)).kept (row := none) ⟨hb2.os, hb2.tape, hb2.output, hb2.size, fun j hj _ => hb2.block j hj⟩ (by simp)
      clear hb2 hown
      by_cases hs : 1 ≤ x.s.size ∧ x.s.size ≤ 20
      · obtain ⟨hs1, hs2⟩ := hs
        have t1 : (1 : Int) ≤ (x.s.size : Int) := by omega
        have t2 : (x.s.size : Int) ≤ 20 := by omega
        have hkey : Go.keyOf Try.prog 9 (.string x.s) = some (litS x.s) := keyOf_string_mk Try.underlying9 (by unfold maxLen; omega)
        go_wp2_with (
          at_mapUpdate
          refine wpList_mapUpdate_own _ rfl _ _ _ 83 rfl 9 84 lawS Try.underlying83 (unitElem (H := Unit)) w.heap.size k _ rfl hown2 (by unfold maxLen; omega) _ _ _ rfl rfl hkey _ [] unitElem_mk ?_
          intro w3 hown3 hg3)
        go_roundw
        case rel =>
          refine ⟨k + 1, hlt, by go_num, ?_, by rw [HTS.out, setN_snoc]; exact hown3, hbw2.grown hg3 hbw2.size (fun j hj => by cases hj; exact Nat.le_refl _)⟩
          rw [HTS.out]
          intro s hs'
          rcases List.mem_append.1 hs' with hs' | hs'
          · exact HALL.out s hs'
          · simp at hs'
            subst hs'
            exact ⟨hs1, hs2⟩
        case measure => simp [intOf]; omega
      · by_cases hs1 : 1 ≤ x.s.size
        · have t1 : (1 : Int) ≤ (x.s.size : Int) := by omega
          have t2 : (20 : Int) < (x.s.size : Int) := by omega
          go_wp2
          go_ret
          exact ⟨false, rfl, ⟨(fun h => by cases h), (fun h => absurd (h.1 x.s (List.mem_map_of_mem HMEM.out)) (by unfold nameOk; omega))⟩, hbw2⟩
        · have t1 : (x.s.size : Int) < 1 := by omega
          go_wp2
          go_ret
          exact ⟨false, rfl, ⟨(fun h => by cases h), (fun h => absurd (h.1 x.s (List.mem_map_of_mem HMEM.out)) (by unfold nameOk; omega))⟩, hbw2⟩
    · have hk' : k = n := by omega
      subst hk'
      have ht : cs.take k = cs := List.take_of_length_le (by omega)
      rw [ht] at hown HALL
      have hsz := setN_size (cs.map Col.s)
      rw [List.length_map, hl] at hsz
      have HSZ := Lib.hid hsz
      have HT := Lib.hid ht
      clear hsz ht hl
      go_wp2_with (
        at_len
        refine wpList_len_own _ rfl _ 83 rfl 9 84 Try.underlying83 (unitElem (H := Unit)) w.heap.size k _ rfl hown ?_)
      go_ret
      refine ⟨_, rfl, ?_, hbw⟩
      rw [beq_iff_eq]
      constructor
      · intro h
        exact ⟨HALL.out, HSZ.out.2.1 (by omega)⟩
      · intro h
        have := HSZ.out.2.2 h.2
        omega

set_option maxHeartbeats 1000000 in
set_option maxRecDepth 100000 in
theorem tblNames_any (A : Option Addr) (n c : Nat) (cs : List Tbl) (w : World) (ha : SegT w A n cs) (hn : n ≤ 1000000) :
    Calls Try.prog 36 #[.slice A n c, .func (.func 37) #[] #[]] w (NamesP (cs.map Tbl.s) w) := by
  have hmm := @run_makeMap Try.prog
  have hl := ha.len
  go_enter Try.func36, Try.ntmps36
  go_wp2
  clear hmm
  go_loopw [12] (fun i wr => ∃ k : Nat, k ≤ n ∧ i = .int .i64 k ∧ (∀ s ∈ (cs.take k).map Tbl.s, nameOk s) ∧ wr.ownsMap Try.prog 9 (unitElem (H := Unit)) w.heap.size k (setN ((cs.take k).map Tbl.s)) ∧ Below w.heap.size w wr) (fun i _ => n - (intOf i).toNat)
  case atStart => exact ⟨0, Nat.zero_le _, rfl, by simp, by rw [List.take_zero, List.map_nil, setN_nil]; exact World.ownsMap_made _ _ _ _, (Below.refl _ _).alloc (Nat.le_refl _) _⟩
  case round =>
    obtain ⟨k, hk, rfl, hall, hown, hbw⟩ := hrel
    have HALL := Lib.hid hall
    clear hall
    by_cases hlt : k < n
    · obtain ⟨g, o, B', m', c', rfl, h0, h1, h2, _, _, _⟩ := SegT.at_ (SegT.below ha hbw) hlt
      have hmem : cs[k]'(by rw [ha.len]; exact hlt) ∈ cs := List.getElem_mem _
      have hts : (cs.take (k + 1)).map Tbl.s = (cs.take k).map Tbl.s ++ [(cs[k]'(by rw [ha.len]; exact hlt)).s] := by
        rw [List.take_succ_eq_append_getElem (by rw [ha.len]; exact hlt), List.map_append]; rfl
      generalize cs[k]'(by rw [ha.len]; exact hlt) = x at *
      have HTS := Lib.hid hts
      have HMEM := Lib.hid hmem
      clear hts hmem
      have hg := World.block_lt_of_cell? _ _ h0
      simp only at hg
      go_wp2_with fail
      refine (tblName_any x.s (.slice B' m' c') x.k _ ⟨_, _, _, rfl⟩).mono ?_
      rintro e w2 ⟨rfl, hb2⟩
      have hbw2 : Below w.heap.size w w2 := Below.next' (hbw.alloc hbw.size _) hb2 (by have := hbw.size; simp; omega)
      have hown2 := (hown.alloc (.cells #[.string x.s, .slice B' m' c', .int .i64 x.k] 30)).kept (row := none) ⟨hb2.os, hb2.tape, hb2.output, hb2.size, fun j hj _ => hb2.block j hj⟩ (by simp)
      clear hb2 hown
      by_cases hs : 1 ≤ x.s.size ∧ x.s.size ≤ 20
      · obtain ⟨hs1, hs2⟩ := hs
        have t1 : (1 : Int) ≤ (x.s.size : Int) := by omega
        have t2 : (x.s.size : Int) ≤ 20 := by omega
        have hkey : Go.keyOf Try.prog 9 (.string x.s) = some (litS x.s) := keyOf_string_mk Try.underlying9 (by unfold maxLen; omega)
        go_wp2_with (
          at_mapUpdate
          refine wpList_mapUpdate_own _ rfl _ _ _ 83 rfl 9 84 lawS Try.underlying83 (unitElem (H := Unit)) w.heap.size k _ rfl hown2 (by unfold maxLen; omega) _ _ _ rfl rfl hkey _ [] unitElem_mk ?_
          intro w3 hown3 hg3)
        go_roundw
        case rel =>
          refine ⟨k + 1, hlt, by go_num, ?_, by rw [HTS.out, setN_snoc]; exact hown3, hbw2.grown hg3 hbw2.size (fun j hj => by cases hj; exact Nat.le_refl _)⟩
          rw [HTS.out]
          intro s hs'
          rcases List.mem_append.1 hs' with hs' | hs'
          · exact HALL.out s hs'
          · simp at hs'
            subst hs'
            exact ⟨hs1, hs2⟩
        case measure => simp [intOf]; omega
      · by_cases hs1 : 1 ≤ x.s.size
        · have t1 : (1 : Int) ≤ (x.s.size : Int) := by omega
          have t2 : (20 : Int) < (x.s.size : Int) := by omega
          go_wp2
          go_ret
          exact ⟨false, rfl, ⟨(fun h => by cases h), (fun h => absurd (h.1 x.s (List.mem_map_of_mem HMEM.out)) (by unfold nameOk; omega))⟩, hbw2⟩
        · have t1 : (x.s.size : Int) < 1 := by omega
          go_wp2
          go_ret
          exact ⟨false, rfl, ⟨(fun h => by cases h), (fun h => absurd (h.1 x.s (List.mem_map_of_mem HMEM.out)) (by unfold nameOk; omega))⟩, hbw2⟩
    · have hk' : k = n := by omega
      subst hk'
      have ht : cs.take k = cs := List.take_of_length_le (by omega)
      rw [ht] at hown HALL
      have hsz := setN_size (cs.map Tbl.s)
      rw [List.length_map, hl] at hsz
      have HSZ := Lib.hid hsz
      have HT := Lib.hid ht
      clear hsz ht hl
      go_wp2_with (
        at_len
        refine wpList_len_own _ rfl _ 83 rfl 9 84 Try.underlying83 (unitElem (H := Unit)) w.heap.size k _ rfl hown ?_)
      go_ret
      refine ⟨_, rfl, ?_, hbw⟩
      rw [beq_iff_eq]
      constructor
      · intro h
        exact ⟨HALL.out, HSZ.out.2.1 (by omega)⟩
      · intro h
        have := HSZ.out.2.2 h.2
        omega

theorem names_cols {cs : List Col} : ((∀ c ∈ cs, nameOk c.s) ∧ (cs.map Col.s).Nodup) ↔ NamesOk (cs.map Col.s) := by
  unfold NamesOk
  refine and_congr_left fun _ => ⟨fun h s hs => ?_, fun h c hc => h _ (List.mem_map_of_mem hc)⟩
  obtain ⟨c, hc, rfl⟩ := List.mem_map.1 hs
  exact h c hc
theorem names_tbls {cs : List Tbl} : ((∀ c ∈ cs, nameOk c.s) ∧ (cs.map Tbl.s).Nodup) ↔ NamesOk (cs.map Tbl.s) := by
  unfold NamesOk
  refine and_congr_left fun _ => ⟨fun h s hs => ?_, fun h c hc => h _ (List.mem_map_of_mem hc)⟩
  obtain ⟨c, hc, rfl⟩ := List.mem_map.1 hs
  exact h c hc
def RightP (p : Prop) (w : World) (e : Ending) (w' : World) : Prop := ∃ b, e = .returned (.bool b) ∧ (b = true ↔ p) ∧ Below w.heap.size w w'
theorem RightP.no {p : Prop} {w w' : World} (h : ¬ p) (hb : Below w.heap.size w w') : RightP p w (.returned (.bool false)) w' := ⟨false, rfl, ⟨(fun h' => by cases h'), (fun h' => absurd h' h)⟩, hb⟩
theorem RightP.yes {p : Prop} {w w' : World} (h : p) (hb : Below w.heap.size w w') : RightP p w (.returned (.bool true)) w' := ⟨true, rfl, ⟨(fun _ => h), (fun _ => rfl)⟩, hb⟩

set_option maxHeartbeats 1000000 in
theorem rightTable_any (s : ByteArray) (A : Option Addr) (n c : Nat) (q : Int) (cs : List Col) (w : World) (ha : SegC w A n cs) (hn : n ≤ maxLen) :
    Calls Try.prog 38 #[.agg #[.string s, .slice A n c, .int .i64 q]] w (RightP (TblOk ⟨s, cs, q⟩) w) := by
  have hl := ha.1
  unfold maxLen at hn
  have hno : ¬ (1 ≤ n ∧ n ≤ 8 ∧ 1 ≤ q ∧ q ≤ (n : Int)) → ¬ TblOk ⟨s, cs, q⟩ := fun h h' => h ⟨by have := h'.1; simp only at this; omega, by have := h'.2.1; simp only at this; omega, h'.2.2.1, by have := h'.2.2.2.1; simp only at this; omega⟩
  have HNO := Lib.hid hno
  clear hno
  by_cases h1 : 1 ≤ n
  · have t1 : (1 : Int) ≤ (n : Int) := by omega
    by_cases h8 : n ≤ 8
    · have t2 : (n : Int) ≤ 8 := by omega
      by_cases hq : 1 ≤ q
      · by_cases hqn : q ≤ (n : Int)
        · go_enter Try.func38, Try.ntmps38
          go_wp2_with fail
          refine (colNames_any A n c cs _ (SegG.alloc ha _) (by omega)).mono ?_
          rintro e w1 ⟨b, rfl, hb, hb1⟩
          have HB := Lib.hid hb
          clear hb
          have hbw1 : Below w.heap.size w w1 := Below.next' ((Below.refl _ _).alloc (Nat.le_refl _) _) hb1 (by simp)
          obtain ⟨p0, p1, p2, _, hsz1⟩ := box3 hb1
          clear hb1
          rcases b with _ | _
          · go_wp2
            go_ret
            refine RightP.no (fun h => ?_) hbw1
            have := HB.out.2 (names_cols.1 ⟨h.2.2.2.2.1, h.2.2.2.2.2.1⟩)
            cases this
          · go_wp2
            go_loopw [33] (fun i w' => ∃ k : Nat, k ≤ n ∧ i = .int .i64 k ∧ (∀ (j : Nat) (x : Col), j < k → cs[j]? = some x → (x.k = 1 ∨ x.k = 2) ∧ ((j : Int) < q → x.b = false)) ∧ w'.cell? ⟨w.heap.size, 2, none⟩ = some (.int .i64 q) ∧ Below w.heap.size w w') (fun i _ => n - (intOf i).toNat)
            case atStart => exact ⟨0, Nat.zero_le _, rfl, (fun j x h => absurd h (by omega)), p2, hbw1⟩
            case round =>
              obtain ⟨k, hk, rfl, hall, hc2, hbw⟩ := hrel
              have HALL := Lib.hid hall
              clear hall p0 p1 p2
              by_cases hlt : k < n
              · obtain ⟨g, o, rfl, h0, h1, h2⟩ := SegC.at_ (SegG.below ha hbw) hlt
                have hx : cs[k]? = some (cs[k]'(by rw [ha.1]; exact hlt)) := List.getElem?_eq_getElem _
                generalize cs[k]'(by rw [ha.1]; exact hlt) = x at *
                have HX := Lib.hid hx
                clear hx
                have hg := World.block_lt_of_cell? _ _ h0
                have hg2 := World.block_lt_of_cell? _ _ hc2
                simp only at hg hg2
                have hbwX : Below w.heap.size w (wr.alloc (.cells #[.string x.s, .int .u8 x.k, .bool x.b] 33)) := hbw.alloc hbw.size _
                have hbad : ¬ ((x.k = 1 ∨ x.k = 2) ∧ ((k : Int) < q → x.b = false)) → ¬ TblOk ⟨s, cs, q⟩ := fun h h' => h ⟨h'.2.2.2.2.2.2.1 x (List.mem_of_getElem? HX.out), h'.2.2.2.2.2.2.2 k x HX.out⟩
                have HBAD := Lib.hid hbad
                clear hbad
                have hkind : ((x.k != 1) = false ∧ (x.k = 1 ∨ x.k = 2)) ∨ ((x.k != 1) = true ∧ (x.k != 2) = false ∧ (x.k = 1 ∨ x.k = 2)) ∨ ((x.k != 1) = true ∧ (x.k != 2) = true ∧ ¬ (x.k = 1 ∨ x.k = 2)) := by
                  by_cases h1 : x.k = 1
                  · exact .inl ⟨by simp [h1], .inl h1⟩
                  · by_cases h2 : x.k = 2
                    · exact .inr (.inl ⟨by simp [h1], by simp [h2], .inr h2⟩)
                    · exact .inr (.inr ⟨by simp [h1], by simp [h2], by simp [h1, h2]⟩)
                rcases hkind with ⟨e1, hok⟩ | ⟨e1, e2, hok⟩ | ⟨e1, e2, hok⟩
                · have HOK := Lib.hid hok
                  clear hok
                  rcases hxb : x.b with _ | _
                  · rw [hxb] at h2
                    have HXB := Lib.hid hxb
                    clear hxb
                    go_wp2
                    go_roundw
                    case rel =>
                      refine ⟨k + 1, hlt, by go_num, fun j y hj hy => ?_, cell_alloc _ hc2, by rw [← HXB.out]; exact hbwX⟩
                      by_cases e : j = k
                      · subst e
                        obtain rfl : y = x := Option.some.inj (hy.symm.trans HX.out)
                        exact ⟨HOK.out, fun _ => HXB.out⟩
                      · exact HALL.out j y (by omega) hy
                    case measure => simp [intOf]; omega
                  · rw [hxb] at h2
                    have HXB := Lib.hid hxb
                    clear hxb
                    by_cases hkq : (k : Int) < q
                    · go_wp2
                      go_ret
                      refine RightP.no (HBAD.out fun h => ?_) (by rw [← HXB.out]; exact hbwX)
                      have := h.2 hkq
                      rw [HXB.out] at this
                      cases this
                    · go_wp2
                      go_roundw
                      case rel =>
                        refine ⟨k + 1, hlt, by go_num, fun j y hj hy => ?_, cell_alloc _ hc2, by rw [← HXB.out]; exact hbwX⟩
                        by_cases e : j = k
                        · subst e
                          obtain rfl : y = x := Option.some.inj (hy.symm.trans HX.out)
                          exact ⟨HOK.out, fun h => absurd h hkq⟩
                        · exact HALL.out j y (by omega) hy
                      case measure => simp [intOf]; omega
                · have HOK := Lib.hid hok
                  clear hok
                  rcases hxb : x.b with _ | _
                  · rw [hxb] at h2
                    have HXB := Lib.hid hxb
                    clear hxb
                    go_wp2
                    go_roundw
                    case rel =>
                      refine ⟨k + 1, hlt, by go_num, fun j y hj hy => ?_, cell_alloc _ hc2, by rw [← HXB.out]; exact hbwX⟩
                      by_cases e : j = k
                      · subst e
                        obtain rfl : y = x := Option.some.inj (hy.symm.trans HX.out)
                        exact ⟨HOK.out, fun _ => HXB.out⟩
                      · exact HALL.out j y (by omega) hy
                    case measure => simp [intOf]; omega
                  · rw [hxb] at h2
                    have HXB := Lib.hid hxb
                    clear hxb
                    by_cases hkq : (k : Int) < q
                    · go_wp2
                      go_ret
                      refine RightP.no (HBAD.out fun h => ?_) (by rw [← HXB.out]; exact hbwX)
                      have := h.2 hkq
                      rw [HXB.out] at this
                      cases this
                    · go_wp2
                      go_roundw
                      case rel =>
                        refine ⟨k + 1, hlt, by go_num, fun j y hj hy => ?_, cell_alloc _ hc2, by rw [← HXB.out]; exact hbwX⟩
                        by_cases e : j = k
                        · subst e
                          obtain rfl : y = x := Option.some.inj (hy.symm.trans HX.out)
                          exact ⟨HOK.out, fun h => absurd h hkq⟩
                        · exact HALL.out j y (by omega) hy
                      case measure => simp [intOf]; omega
                · have HOK := Lib.hid hok
                  clear hok
                  go_wp2
                  go_ret
                  exact RightP.no (HBAD.out fun h => HOK.out h.1) hbwX
              · have HKN := Lib.hid (show k = n by omega)
                go_wp2
                go_ret
                have hnm := names_cols.2 (HB.out.1 (by first | rfl | trivial))
                have hl9 := ha.1
                have hk9 := HKN.out
                refine RightP.yes ⟨by show 1 ≤ cs.length; omega, by show cs.length ≤ 8; omega, hq, by show q ≤ (cs.length : Int); omega, hnm.1, hnm.2, fun x hx => ?_, fun j x hx hj => ?_⟩ hbw
                · obtain ⟨j, hj, rfl⟩ := List.getElem_of_mem hx
                  exact (HALL.out j _ (by have h0 : j < cs.length := hj; omega) (List.getElem?_eq_getElem hj)).1
                · exact (HALL.out j x (by have h0 : j < cs.length := (List.getElem?_eq_some_iff.1 hx).1; omega) hx).2 hj
        · have t3 : (n : Int) < q := by omega
          go_enter Try.func38, Try.ntmps38
          go_wp2
          go_ret
          exact RightP.no (HNO.out (by omega)) ((Below.refl _ _).alloc (Nat.le_refl _) _)
      · have t3 : q < 1 := by omega
        go_enter Try.func38, Try.ntmps38
        go_wp2
        go_ret
        exact RightP.no (HNO.out (by omega)) ((Below.refl _ _).alloc (Nat.le_refl _) _)
    · have t2 : (8 : Int) < (n : Int) := by omega
      go_enter Try.func38, Try.ntmps38
      go_wp2
      go_ret
      exact RightP.no (HNO.out (by omega)) ((Below.refl _ _).alloc (Nat.le_refl _) _)
  · have t1 : (n : Int) < 1 := by omega
    go_enter Try.func38, Try.ntmps38
    go_wp2
    go_ret
    exact RightP.no (HNO.out (by omega)) ((Below.refl _ _).alloc (Nat.le_refl _) _)

set_option maxHeartbeats 1000000 in
theorem right_tables (A : Option Addr) (n c : Nat) (L : List Tbl) (w : World) (ha : SegT w A n L) (hn : n ≤ maxLen) :
    Calls Try.prog 13 #[.slice A n c] w (RightP (TabsOk L) w) := by
  have hl := ha.len
  unfold maxLen at hn
  have HL := Lib.hid hl
  clear hl
  by_cases h1 : 1 ≤ n
  · have t1 : (1 : Int) ≤ (n : Int) := by omega
    by_cases h4 : n ≤ 4
    · have t2 : (n : Int) ≤ 4 := by omega
      go_enter Try.func13, Try.ntmps13
      go_wp2_with fail
      refine (tblNames_any A n c L _ ha (by omega)).mono ?_
      rintro e w1 ⟨b, rfl, hb, hb1⟩
      have HB := Lib.hid hb
      clear hb
      rcases b with _ | _
      · go_wp2
        go_ret
        refine RightP.no (fun h => ?_) hb1
        have := HB.out.2 (names_tbls.1 ⟨h.2.2.1, h.2.2.2.1⟩)
        cases this
      · go_wp2
        go_loopw [18] (fun i w' => ∃ k : Nat, k ≤ n ∧ i = .int .i64 k ∧ (∀ (j : Nat) (x : Tbl), j < k → L[j]? = some x → TblOk x) ∧ Below w.heap.size w w') (fun i _ => n - (intOf i).toNat)
        case atStart => exact ⟨0, Nat.zero_le _, rfl, (fun j x h => absurd h (by omega)), hb1⟩
        case round =>
          obtain ⟨k, hk, rfl, hall, hbw⟩ := hrel
          have HALL := Lib.hid hall
          clear hall
          by_cases hlt : k < n
          · obtain ⟨g, o, B', m', c', rfl, h0, h1, h2, hs, hmc, hcm⟩ := SegT.at_ (SegT.below ha hbw) hlt
            have hx : L[k]? = some (L[k]'(by rw [ha.len]; exact hlt)) := List.getElem?_eq_getElem _
            generalize L[k]'(by rw [ha.len]; exact hlt) = x at *
            have HX := Lib.hid hx
            clear hx
            have hg := World.block_lt_of_cell? _ _ h0
            simp only at hg
            go_wp2_with fail
            refine (rightTable_any x.s B' m' c' x.k x.cols _ (SegG.alloc hs _) (Nat.le_trans hmc hcm)).mono ?_
            rintro e w2 ⟨b, rfl, hb, hb2⟩
            have HB2 := Lib.hid hb
            clear hb
            have hbw2 : Below w.heap.size w w2 := Below.next' (hbw.alloc hbw.size _) hb2 (by have := hbw.size; simp; omega)
            rcases b with _ | _
            · go_wp2
              go_ret
              refine RightP.no (fun h => ?_) hbw2
              have := HB2.out.2 (h.2.2.2.2 x (List.mem_of_getElem? HX.out))
              cases this
            · go_wp2
              go_roundw
              case rel =>
                refine ⟨k + 1, hlt, by go_num, fun j y hj hy => ?_, hbw2⟩
                by_cases e : j = k
                · subst e
                  obtain rfl : y = x := Option.some.inj (hy.symm.trans HX.out)
                  exact HB2.out.1 (by first | rfl | trivial)
                · exact HALL.out j y (by omega) hy
              case measure => simp [intOf]; omega
          · have HKN := Lib.hid (show k = n by omega)
            go_wp2
            go_ret
            have hnm := names_tbls.2 (HB.out.1 (by first | rfl | trivial))
            have hl9 := HL.out
            have hk9 := HKN.out
            refine RightP.yes ⟨by omega, by omega, hnm.1, hnm.2, fun x hx => ?_⟩ hbw
            obtain ⟨j, hj, rfl⟩ := List.getElem_of_mem hx
            exact HALL.out j _ (by omega) (List.getElem?_eq_getElem hj)
    · have t2 : (4 : Int) < (n : Int) := by omega
      go_enter Try.func13, Try.ntmps13
      go_wp2
      go_ret
      exact RightP.no (fun h => by have := h.2.1; have := HL.out; omega) (Below.refl _ _)
  · have t1 : (n : Int) < 1 := by omega
    go_enter Try.func13, Try.ntmps13
    go_wp2
    go_ret
    exact RightP.no (fun h => by have := h.1; have := HL.out; omega) (Below.refl _ _)

end Go.Proofs.Ytcmagjeplofagaa
