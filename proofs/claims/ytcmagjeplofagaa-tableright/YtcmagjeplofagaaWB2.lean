/-
  The walk of the program's Back.
-/
import Derived.Test.YtcmagjeplofagaaWB
namespace Go.Proofs.Ytcmagjeplofagaa
open Go.RowKit

def sliceLen : Value → Nat
  | .slice _ n _ => n
  | _ => 0

/-- Where the ways through Back's one call meet again. -/
def BkCut (wr : World) (R : Option (V × List UInt8)) (A : Option Addr) (n : Nat) (l : List UInt8) (p r x : Value) (wc : World) : Prop :=
  ∃ (q : Nat) (y : V) (A' : Option Addr) (n' c' : Nat), p = .pointer (some ⟨q, 0, none⟩) ∧ wc.cell? ⟨q, 0, none⟩ = some (.int .u8 y.k) ∧ wc.cell? ⟨q, 1, none⟩ = some (.int .i64 y.n) ∧ wc.cell? ⟨q, 2, none⟩ = some (.string y.s) ∧
    r = .slice A' n' c' ∧ x = .bool R.isSome ∧ (∀ v rr, R = some (v, rr) → y = v ∧ (∀ W, Seg W A n l → Seg W A' n' rr) ∧ n' ≤ c' ∧ c' ≤ maxLen) ∧ Below wr.heap.size wr wc

/-- What Back answers. -/
def BackP (w : World) (l : List UInt8) (e : Ending) (w' : World) : Prop :=
  ∃ v, e = .returned (.tuple #[v, .int .i64 (if (back l).isSome then 0 else 2)]) ∧ OwnV w' w.heap.size 41 v ((back l).getD []) ∧ Below w.heap.size w w'

set_option maxHeartbeats 2000000 in
theorem back_any (A : Option Addr) (n c : Nat) (l : List UInt8) (w : World) (ha : Seg w A n l) (hnc : n ≤ c) (hcm : c ≤ maxLen) (hn : n ≤ 1000000) :
    Calls Try.prog 45 #[.slice A n c] w (BackP w l) := by
  go_enter Try.func45, Try.ntmps45
  go_wp2
  go_loopw [0, 4] (fun p acc w' => ∃ (A' : Option Addr) (n' c' : Nat) (rest : List UInt8) (d : List V), p = .slice A' n' c' ∧ (∀ W, Seg W A n l → Seg W A' n' rest) ∧ n' ≤ c' ∧ c' ≤ maxLen ∧ n' ≤ n ∧ d.length + n' ≤ n ∧ back l = (back rest).map (d ++ ·) ∧ OwnV w' w.heap.size 41 acc d ∧ Below w.heap.size w w') (fun p _ _ => sliceLen p)
  case atStart => exact ⟨A, n, c, l, [], rfl, fun W h => h, hnc, hcm, Nat.le_refl _, by simp, by simp, OwnV.nil _ _ _, Below.refl _ _⟩
  case round =>
    obtain ⟨A', n', c', rest, d, rfl, hseg, hnc', hcm', hn', hdn, hbk, hod, hbw⟩ := hrel
    have hsr := hseg wr (ha.below hbw)
    have HSEG := Lib.hid hseg
    have HBK := Lib.hid hbk
    clear hseg hbk
    obtain ⟨Ad, cd, rfl, hsd, hlcd, hcmd⟩ := hod.forms
    rcases rest with _ | ⟨b, rest⟩
    · have h0 : n' = 0 := hsr.1.symm
      subst h0
      go_wp2
      go_ret2
      have e : back l = some d := by rw [HBK.out]; simp [back, backF]
      exact ⟨_, by rw [e]; rfl, by rw [e]; exact hod, hbw⟩
    · have hl := hsr.1
      rw [List.length_cons] at hl
      have h0n : 0 < n' := by omega
      have hp : (0 : Int) < (n' : Int) := by omega
      have h1n : (1 : Int) ≤ (n' : Int) := by omega
      obtain ⟨g, o, rfl, hc⟩ := hsr.at_ (k := 0) (by omega)
      rw [Nat.add_zero] at hc
      simp only [List.getElem_cons_zero] at hc
      have hg : g < wr.heap.size := World.block_lt_of_cell? wr _ hc
      have hg1 : ¬ wr.heap.size = g := by omega
      obtain ⟨A1, hA1, hseg1⟩ : ∃ A1, (if c' = 1 then some (⟨g, o, none⟩ : Addr) else some ⟨g, o + 1, none⟩) = A1 ∧ ∀ W, Seg W (some ⟨g, o, none⟩) n' (b :: rest) → Seg W A1 (n' - 1) rest := ⟨_, rfl, fun W h => h.from_ 1 c' (by omega) hnc'⟩
      have HSEG1 := Lib.hid hseg1
      have HL := Lib.hid hl
      clear hseg1 hl
      have hcm2 := hcm'
      unfold maxLen at hcm2
      have hne' := World.new_ne wr _ hc
      go_wp2
      go_cut [5, 6, 7] (fun p r x wc => BkCut wr (back1 b rest) A1 (n' - 1) rest p r x wc)
      case first =>
        go_region_held3 (fun W => W.cell? ⟨g, o, none⟩ = some (.int .u8 (b.toNat : Int))) (go_keep)
          (first
            | (go_at_call 62; refine (backOne_any b A1 (n' - 1) (c' - 1) rest _ ?_ ?_ ?_ ?_).mono ?_; exact HSEG1.out _ hsr.drew; omega; (unfold maxLen; omega); omega; rintro e w1 ⟨y, A2, n2, c2, rfl, hs2, hb2⟩; have hcc : w1.cell? ⟨g, o, none⟩ = some (.int .u8 (b.toNat : Int)) := (hb2.cell (p := ⟨g, o, none⟩) (by simp; omega)).trans (by go_keep); have HS2 := Lib.hid hs2; clear hs2)
            | (go_at_call 62; refine (backOne_any b A1 (n' - 1) (c' - 1) rest _ ?_ ?_ ?_ ?_).mono ?_; exact HSEG1.out _ ((hsr.alloc _).drew); omega; (unfold maxLen; omega); omega; rintro e w1 ⟨y, A2, n2, c2, rfl, hs2, hb2⟩; have hcc : w1.cell? ⟨g, o, none⟩ = some (.int .u8 (b.toNat : Int)) := (hb2.cell (p := ⟨g, o, none⟩) (by simp; omega)).trans (by go_keep); have HS2 := Lib.hid hs2; clear hs2; obtain ⟨k0, k1, k2, kf, ks⟩ := box3d hb2))
        all_goals go_wp2_with fail
        all_goals go_meet
        · refine ⟨_, y, A2, n2, c2, rfl, ?_, ?_, ?_, rfl, rfl, HS2.out, ?_⟩
          · simp
          · simp
          · simp
          · exact (Below.undrew hb2).alloc hb2.size _
        · refine ⟨_, y, A2, n2, c2, rfl, ?_, ?_, ?_, rfl, rfl, HS2.out, ?_⟩
          · simp [k0, go_sem]
          · simp [k1, go_sem]
          · simp [k2, go_sem]
          · refine Below.setCell (Below.setCell (Below.setCell ?_ (by simp) _) (by simp) _) (by simp) _
            exact ((Below.refl _ _).alloc (Nat.le_refl _) _).trans ((Below.undrew hb2).mono (by simp))
      case rest =>
        obtain ⟨q, y, A2, n2, c2, rfl, hq0, hq1, hq2, rfl, rfl, hs2, hb2⟩ := hcut
        have hbw2 : Below w.heap.size w wc := Below.next' hbw hb2 hbw.size
        have hod2 := hod.below hb2
        have hql : q < wc.heap.size := World.block_lt_of_cell? wc _ hq0
        clear hod hb2 hc hg hg1 hne' hA1
        rcases hR : back1 b rest with _ | ⟨v, rr⟩
        · have e : back l = none := by rw [HBK.out, back_cons, hR]; rfl
          have HE := Lib.hid e
          clear e hs2
          go_wp2
          go_ret2
          exact ⟨_, by rw [HE.out]; rfl, by rw [HE.out]; exact OwnV.nil _ _ _, hbw2⟩
        · obtain ⟨rfl, hs3, hnc2, hcm3⟩ := hs2 v rr hR
          have hlt := back1_lt b rest y rr hR
          have hlen : n2 = rr.length := (hs3 _ (HSEG1.out _ hsr)).1.symm
          have hl' := HL.out
          have e : back l = (back rr).map ((d ++ [y]) ++ ·) := by
            rw [HBK.out, back_cons, hR]
            simp only
            rw [Option.map_map]
            congr 1
            funext x
            simp
          have HE := Lib.hid e
          have HS3 := Lib.hid hs3
          have hn2 : n2 + 1 ≤ n' := by omega
          have hdl : d.length ≤ 1000000 := by omega
          clear e hs2 hs3 hR hlen hl' hlt
          go_wp2_with (first
            | (at_builtin
               refine wpList_append_vals _ rfl (.tmp 23) (.tmp 25) _ _ vt rfl w.heap.size _ d rfl (hod2.alloc _) _ 1 1 [y] rfl (SegV.newAt _ _ _ _ _ _ rfl rfl rfl) (by omega) (by have := hbw2.size; simp; omega) ?_
               intro v3 w3 ho3 hg3 _
               obtain ⟨d3, hd3⟩ : ∃ d3, d ++ [y] = d3 := ⟨_, rfl⟩
               have hl3 : d3.length = d.length + 1 := by rw [← hd3]; simp
               have hbw3 := below_grownV (hbw2.alloc hbw2.size _) (hod2.alloc _) hg3 (Nat.le_refl _) (by have := hbw2.size; simp; omega)
               rw [hd3] at ho3
               have HD3 := Lib.hid hd3
               have HL3 := Lib.hid hl3
               clear hd3 hg3 hl3
               obtain ⟨A3, c3, rfl, hs3, hlc3, hcm4⟩ := ho3.forms))
          go_roundw
          case rel =>
            refine ⟨A2, n2, c2, rr, d3, rfl, fun W h => HS3.out W (HSEG1.out W (HSEG.out W h)), hnc2, hcm3, by omega, by have := HL3.out; omega, by rw [HE.out, HD3.out], ho3, hbw3⟩
          case measure => simp [sliceLen]; omega

end Go.Proofs.Ytcmagjeplofagaa
