/-
  The walk of the document's Tables.
-/
import Derived.Test.YtcmagjeplofagaaPureQ
import Derived.Test.YtcmagjeplofagaaWT5
import Derived.Test.YtcmagjeplofagaaQG
import Derived.Deep.RegionHeld3
import Derived.IntWalk
namespace Go.Proofs.Ytcmagjeplofagaa
open Go.RowKit

/-- Tables of the call's own: the row of structs, and each one's columns in a row of its own. -/
def TabsIn (w : World) (base : Nat) (v : Value) (T : List Tbl) : Prop :=
  ∃ S : List TblS, OwnG tblLay w base 30 v S ∧ S.length = T.length ∧ ∀ (i : Nat) (s : TblS) (t : Tbl), S[i]? = some s → T[i]? = some t →
    t.s = s.s ∧ t.k = s.k ∧ s.n = t.cols.length ∧ OwnG colLay w base 33 (.slice s.A s.n s.c) t.cols ∧ (Value.slice s.A s.n s.c).ownBlock ≠ none ∧ (Value.slice s.A s.n s.c).ownBlock ≠ v.ownBlock
theorem TabsIn.nil (w : World) (base : Nat) : TabsIn w base (.slice none 0 0) [] := ⟨[], OwnG.nil _ _ _, rfl, fun i s t h => by cases h⟩
theorem TabsIn.below {w w' : World} {base : Nat} {v : Value} {T : List Tbl} (h : TabsIn w base v T) (hb : Below w.heap.size w w') : TabsIn w' base v T := by
  obtain ⟨S, h1, h2, h3⟩ := h
  refine ⟨S, h1.below hb, h2, fun i s t hs ht => ?_⟩
  obtain ⟨a1, a2, a3, a4, a5, a6⟩ := h3 i s t hs ht
  exact ⟨a1, a2, a3, a4.below hb, a5, a6⟩
theorem TabsIn.segT {w : World} {base : Nat} {v : Value} {T : List Tbl} (h : TabsIn w base v T) : ∃ A c, v = .slice A T.length c ∧ SegT w A T.length T ∧ T.length ≤ c ∧ c ≤ maxLen := by
  obtain ⟨S, h1, h2, h3⟩ := h
  obtain ⟨A, c, rfl, hs, hlc, hcm⟩ := h1.forms
  rw [h2] at hs hlc ⊢
  refine ⟨A, c, rfl, ⟨S, hs, h2, fun i s t hs' ht => ?_⟩, hlc, hcm⟩
  obtain ⟨a1, a2, a3, a4, a5, a6⟩ := h3 i s t hs' ht
  obtain ⟨A', c', e, hc, h4, h5⟩ := a4.forms
  injection e with e1 e2 e3
  subst e1 e3
  unfold TblAt
  rw [a3]
  exact ⟨a1, a2, hc, h4, h5⟩

def GoodT (T : List Tbl) : Prop := ∀ (i : Nat) (t : Tbl), T[i]? = some t → t.s = tblN i ∧ TblOk t

/-- What the rounds over a form's columns find: the form's box, the table's box, the columns. -/
def InC (wr : World) (bt : Nat) (fv : Value) (K : Int) (nm : ByteArray) (q : Int) (p : Value) (D : List Col) (w' : World) : Prop :=
  w'.heap[wr.heap.size]? = some (.cells #[fv, .int .u8 K] 64) ∧ w'.heap[bt]? = some (.cells #[.string nm, p, .int .i64 q] 30) ∧
    OwnG colLay w' (wr.heap.size + 2) 33 p D ∧ p.ownBlock ≠ some bt ∧ Below wr.heap.size wr w' ∧ bt < w'.heap.size ∧ wr.heap.size + 2 < bt

theorem run_tn (W : World) (o : Obj) (k : Nat) (hk : k < 100) :
    (convert 31 9 (.slice (some ⟨W.heap.size + 1, 0, none⟩) 2 2)).run Try.prog ((W.alloc o).alloc (.cells #[.int .u8 116, .int .u8 (48 + (k : Int))] 5)) = .ok (.string (tblN k)) ((W.alloc o).alloc (.cells #[.int .u8 116, .int .u8 (48 + (k : Int))] 5)) := by
  rw [run_string_seg (P := Try.prog) _ 31 9 5 bt Try.underlying9 _ 2 2 [116, UInt8.ofNat (48 + k)] (Seg.newAt (W.alloc o) _ 5 _ _ 2 (by simp) (by simp [cellsB]; omega) rfl)]
  rfl

theorem run_cn (W : World) (k : Nat) (hk : k < 100) :
    (convert 31 9 (.slice (some ⟨W.heap.size, 0, none⟩) 1 1)).run Try.prog (W.alloc (.cells #[.int .u8 (97 + (k : Int))] 5)).drew = .ok (.string (colN k)) (W.alloc (.cells #[.int .u8 (97 + (k : Int))] 5)).drew := by
  rw [run_string_seg (P := Try.prog) _ 31 9 5 bt Try.underlying9 _ 1 1 [UInt8.ofNat (97 + k)] ((Seg.newAt W _ 5 _ _ 1 rfl (by simp [cellsB]; omega) rfl).drew)]
  rfl

theorem wrap_u8 (x : Int) (h0 : 0 ≤ x) (h1 : x < 256) : IntKind.u8.wrap x = x := by
  show x % 256 = x
  omega
theorem InC.start (wr : World) (fv : Value) (K : Int) (nm : ByteArray) (b : Array Value) :
    InC wr (wr.heap.size + 3) fv K nm 1 (.slice (some ⟨wr.heap.size + 2, 0, none⟩) 1 1) [⟨⟨#[97]⟩, 1, false⟩] ((((wr.alloc (.cells #[fv, .int .u8 K] 64)).alloc (.cells b 5)).alloc (.cells #[.string ⟨#[97]⟩, .int .u8 1, .bool false] 33)).alloc (.cells #[.string nm, .slice (some ⟨wr.heap.size + 2, 0, none⟩) 1 1, .int .i64 1] 30)) := by
  have e1 : (wr.alloc (.cells #[fv, .int .u8 K] 64)).heap.size = wr.heap.size + 1 := by simp
  have e2 : ((wr.alloc (.cells #[fv, .int .u8 K] 64)).alloc (.cells b 5)).heap.size = wr.heap.size + 2 := by simp
  have e3 : (((wr.alloc (.cells #[fv, .int .u8 K] 64)).alloc (.cells b 5)).alloc (.cells #[.string ⟨#[97]⟩, .int .u8 1, .bool false] 33)).heap.size = wr.heap.size + 3 := by simp
  refine ⟨?_, ?_, ?_, ?_, ?_, ?_, by omega⟩
  · rw [Below.heap_alloc _ _ _ (by omega), Below.heap_alloc _ _ _ (by omega), Below.heap_alloc _ _ _ (by omega)]
    exact heap_alloc_new _ _
  · have := heap_alloc_new (((wr.alloc (.cells #[fv, .int .u8 K] 64)).alloc (.cells b 5)).alloc (.cells #[.string ⟨#[97]⟩, .int .u8 1, .bool false] 33)) (.cells #[.string nm, .slice (some ⟨wr.heap.size + 2, 0, none⟩) 1 1, .int .i64 1] 30)
    rw [e3] at this
    exact this
  · refine OwnG.alloc ?_ _
    exact OwnG.new _ _ _ _ _ _ _ _ (by simp) rfl rfl rfl (by simp) (by simp [maxLen])
  · simp [Value.ownBlock]
  · exact ((((Below.refl _ _).alloc (Nat.le_refl _) _).alloc (by simp) _).alloc (by simp; omega) _).alloc (by simp; omega) _
  · simp

theorem InC.push {wr : World} {bt : Nat} {fv : Value} {K : Int} {nm : ByteArray} {q : Int} {p v1 : Value} {D D' : List Col} {wz X w1 : World} (h : InC wr bt fv K nm q p D wz) (hX : Below wz.heap.size wz X)
    (ho : OwnG colLay w1 (wr.heap.size + 2) 33 v1 D') (hg : X.grownBy w1 p.ownBlock) (hat : v1.ownBlock = p.ownBlock ∨ v1.ownBlock = some X.heap.size) :
    InC wr bt fv K nm q v1 D' (w1.setCell ⟨bt, 1, none⟩ v1) := by
  obtain ⟨h1, h2, h3, h4, h5, h6, h7⟩ := h
  have hs := hX.size
  have hs1 := hg.size
  have hp : ∀ k, p.ownBlock = some k → wr.heap.size + 2 ≤ k := fun k hk => (h3.lt k hk).1
  have n1 : some wr.heap.size ≠ p.ownBlock := fun e => by have := hp _ e.symm; omega
  have hb : v1.ownBlock ≠ some bt := by
    rcases hat with e | e
    · rw [e]; exact h4
    · rw [e]; intro e'; injection e'; omega
  have hbel : Below wr.heap.size wr w1 := (h5.trans (hX.mono h5.size)).grown hg (Nat.le_trans h5.size hs) fun k hk => by have := hp k hk; omega
  refine ⟨?_, ?_, ho.setFar hb _, hb, hbel.setCell (by simp; omega) _, by simp; omega, h7⟩
  · rw [heap_setCell_other _ _ _ _ (by simp; omega), hg.block _ (by omega) n1, hX.block _ (by omega)]
    exact h1
  · have e : w1.heap[bt]? = some (.cells #[.string nm, p, .int .i64 q] 30) := by
      rw [hg.block _ (by omega) (Ne.symm h4), hX.block _ (by omega)]
      exact h2
    rw [heap_setCell_same _ _ _ _ _ _ e]
    rfl

theorem TabsIn.pushed {X w3 : World} {base : Nat} {v v' : Value} {S : List TblS} {T : List Tbl} {s : TblS} {t : Tbl} (h1 : OwnG tblLay w3 base 30 v' (S ++ [s])) (h2 : S.length = T.length)
    (h3 : ∀ (i : Nat) (s : TblS) (t : Tbl), S[i]? = some s → T[i]? = some t → t.s = s.s ∧ t.k = s.k ∧ s.n = t.cols.length ∧ OwnG colLay X base 33 (.slice s.A s.n s.c) t.cols ∧ (Value.slice s.A s.n s.c).ownBlock ≠ none ∧ (Value.slice s.A s.n s.c).ownBlock ≠ v.ownBlock)
    (hg : X.grownBy w3 v.ownBlock) (hat : v'.ownBlock = v.ownBlock ∨ v'.ownBlock = some X.heap.size)
    (hn : t.s = s.s ∧ t.k = s.k ∧ s.n = t.cols.length ∧ OwnG colLay X base 33 (.slice s.A s.n s.c) t.cols ∧ (Value.slice s.A s.n s.c).ownBlock ≠ none ∧ (Value.slice s.A s.n s.c).ownBlock ≠ v.ownBlock) : TabsIn w3 base v' (T ++ [t]) := by
  have key : ∀ (s : TblS) (t : Tbl), t.s = s.s ∧ t.k = s.k ∧ s.n = t.cols.length ∧ OwnG colLay X base 33 (.slice s.A s.n s.c) t.cols ∧ (Value.slice s.A s.n s.c).ownBlock ≠ none ∧ (Value.slice s.A s.n s.c).ownBlock ≠ v.ownBlock →
      t.s = s.s ∧ t.k = s.k ∧ s.n = t.cols.length ∧ OwnG colLay w3 base 33 (.slice s.A s.n s.c) t.cols ∧ (Value.slice s.A s.n s.c).ownBlock ≠ none ∧ (Value.slice s.A s.n s.c).ownBlock ≠ v'.ownBlock := by
    intro s t ⟨a1, a2, a3, a4, a5, a6⟩
    refine ⟨a1, a2, a3, a4.kept hg (.inr a6), a5, ?_⟩
    rcases hat with e | e
    · rw [e]; exact a6
    · rw [e]
      intro e'
      have := (a4.lt _ e').2
      omega
  refine ⟨S ++ [s], h1, by simp [h2], fun i s' t' hs ht => key s' t' ?_⟩
  by_cases hi : i < S.length
  · rw [List.getElem?_append_left hi] at hs
    rw [List.getElem?_append_left (by omega)] at ht
    exact h3 i s' t' hs ht
  · have hi' : i = S.length := by
      have := (List.getElem?_eq_some_iff.1 hs).1
      simp at this
      omega
    subst hi'
    rw [List.getElem?_append_right (Nat.le_refl _)] at hs
    rw [h2, List.getElem?_append_right (Nat.le_refl _)] at ht
    simp at hs ht
    subst hs ht
    exact hn
theorem GoodT.snoc {T : List Tbl} {k : Nat} {t : Tbl} (h : GoodT T) (hk : T.length = k) (ht : t.s = tblN k ∧ TblOk t) : GoodT (T ++ [t]) := fun i x hx => by
  by_cases hi : i < T.length
  · rw [List.getElem?_append_left hi] at hx
    exact h i x hx
  · have hi' : i = T.length := by
      have := (List.getElem?_eq_some_iff.1 hx).1
      simp at this
      omega
    subst hi'
    simp at hx
    subst hx
    subst hk
    exact ht
theorem InC.drew {wr : World} {bt : Nat} {fv : Value} {K : Int} {nm : ByteArray} {q : Int} {p : Value} {D : List Col} {wz : World} (h : InC wr bt fv K nm q p D wz) : InC wr bt fv K nm q p D wz.drew :=
  ⟨h.1, h.2.1, h.2.2.1.drew, h.2.2.2.1, h.2.2.2.2.1.drew, h.2.2.2.2.2⟩
theorem InC.setK {wr : World} {bt : Nat} {fv : Value} {K : Int} {nm : ByteArray} {q : Int} {p : Value} {D : List Col} {wz : World} (h : InC wr bt fv K nm q p D wz) (q' : Int) : InC wr bt fv K nm q' p D (wz.setCell ⟨bt, 2, none⟩ (.int .i64 q')) := by
  obtain ⟨h1, h2, h3, h4, h5, h6, h7⟩ := h
  refine ⟨?_, ?_, h3.setFar h4 _, h4, h5.setCell (by simp; omega) _, by simpa using h6, h7⟩
  · rw [heap_setCell_other _ _ _ _ (by simp; omega)]
    exact h1
  · rw [heap_setCell_same _ _ _ _ _ _ h2]
    rfl
theorem InC.setN {wr : World} {bt : Nat} {fv : Value} {K : Int} {nm : ByteArray} {q : Int} {p : Value} {D : List Col} {wz : World} (h : InC wr bt fv K nm q p D wz) (i : Nat) (hi : i < D.length) :
    ∃ g c, p = .slice (some ⟨g, 0, none⟩) D.length c ∧ wz.cell? ⟨g, i * 3 + 2, none⟩ = some (.bool D[i].b) ∧ wz.frozen? ⟨g, i * 3 + 2, none⟩ = false ∧ D.length ≤ c ∧ c ≤ maxLen ∧ ∀ b, InC wr bt fv K nm q p (D.set i ⟨D[i].s, D[i].k, b⟩) (wz.setCell ⟨g, i * 3 + 2, none⟩ (.bool b)) := by
  obtain ⟨h1, h2, h3, h4, h5, h6, h7⟩ := h
  obtain ⟨g, c, e, hb, hl, hc, hf, hlc, hcm, hset⟩ := h3.set_ i hi 2 (by decide)
  have hgt : g ≠ bt := fun e' => h4 (by rw [e, e']; rfl)
  refine ⟨g, c, e, hc, hf, hlc, hcm, fun b => ⟨?_, ?_, hset _ _ rfl, h4, h5.setCell (by simp; omega) _, by simpa using h6, h7⟩⟩
  · rw [heap_setCell_other _ _ _ _ (by simp; omega)]
    exact h1
  · rw [heap_setCell_other _ _ _ _ (by simp; exact Ne.symm hgt)]
    exact h2

def TablesP (w : World) (e : Ending) (w' : World) : Prop := ∃ v T, e = .returned v ∧ TabsIn w' w.heap.size v T ∧ GoodT T ∧ 1 ≤ T.length ∧ T.length ≤ 4 ∧ Below w.heap.size w w'

set_option maxHeartbeats 2000000 in
set_option maxRecDepth 8000 in
theorem tables_any (A : Option Addr) (n c : Nat) (L : List Frm) (w : World) (ha : SegF w A n L) (hn : n ≤ 1000000) :
    Calls Try.prog 12 #[.slice A n c] w (TablesP w) := by
  go_enter Try.func12, Try.ntmps12
  go_wp2
  go_loopw [3, 4] (fun p i w' => ∃ (k : Nat) (T : List Tbl), k ≤ 4 ∧ (k ≤ n ∨ k ≤ 1) ∧ i = .int .i64 k ∧ T.length = k ∧ GoodT T ∧ TabsIn w' w.heap.size p T ∧ Below w.heap.size w w') (fun _ i _ => 4 - (intOf i).toNat)
  case atStart => exact ⟨0, [], by omega, .inr (by omega), rfl, rfl, fun i t h => (by simp at h), TabsIn.nil _ _, Below.refl _ _⟩
  case round =>
    obtain ⟨k, T, hk, hkn, rfl, hTl, hGT, hT, hbw⟩ := hrel
    have HGT := Lib.hid hGT
    have HT := Lib.hid hT
    have HTL := Lib.hid hTl
    obtain ⟨At, ct, rfl, hsT, hlct, hcmt⟩ := hT.segT
    rw [hTl] at HT ⊢
    clear hGT hT hTl hsT hlct
    by_cases hgo : k < 4 ∧ (k < n ∨ k = 0)
    · obtain ⟨hk4, hgo⟩ := hgo
      have kc := fun o => run_tn wr o k (by omega)
      by_cases hkn' : k < n
      · obtain ⟨g, o, fB, fm, fc, rfl, h0, h1, hsf, hfc, hfcm, hK0, hK1⟩ := SegF.at_ (SegF.below ha hbw) hkn'
        generalize L[k]'(by rw [ha.len]; exact hkn') = f at *
        have hg := World.block_lt_of_cell? _ _ h0
        simp only at hg
        go_wp2
        clear kc
        obtain ⟨bt, hbteq⟩ : ∃ bt, wr.heap.size + 1 + 1 + 1 = bt := ⟨_, rfl⟩
        rw [hbteq]
        have HBT := Lib.hid hbteq
        clear hbteq
        go_loopw [7] (fun i w' => ∃ (j : Nat) (fB : Option Addr) (fm fc : Nat) (fl : List UInt8) (K : Int) (p : Value) (D : List Col), i = .int .i64 j ∧ j ≤ 8 ∧ j ≤ fm ∧ Seg wr fB fm fl ∧ fm ≤ fc ∧ fc ≤ maxLen ∧ 0 ≤ K ∧ K ≤ 255 ∧ InC wr bt (.slice fB fm fc) K (tblN k) 1 p D w' ∧ GoodC 100 D ∧ D.length = (if j = 0 then 1 else j)) (fun i _ => 8 - (intOf i).toNat)
        case atStart => exact ⟨0, fB, fm, fc, f.cols, f.k, _, _, rfl, by omega, by omega, hsf, hfc, hfcm, hK0, hK1, by rw [← HBT.out]; exact InC.start _ _ _ _ _, GoodC.first _, rfl⟩
        case round =>
          rename World => wq
          clear hsf hfc hfcm hK0 hK1 h0 h1 hg
          obtain ⟨j, fB, fm, fc, fl, K, p, D, rfl, hj8, hjm, hsf, hfc, hfcm, hK0, hK1, ⟨hbf, hbt, hod, hpt, hbq, hsz, hb2⟩, hGC, hDl⟩ := hrel
          have HGC := Lib.hid hGC
          have HDL := Lib.hid hDl
          clear hGC hDl
          have cf0 : wq.cell? ⟨wr.heap.size, 0, none⟩ = some (.slice fB fm fc) := cell_of_row _ _ _ _ _ _ hbf
          by_cases hjgo : j < fm ∧ j < 8
          · obtain ⟨hj1, hj2⟩ := hjgo
            have hj1' : (j : Int) < (fm : Int) := by omega
            have hj2' : (j : Int) < 8 := by omega
            have hj0' : (0 : Int) ≤ (j : Int) := by omega
            obtain ⟨fg, fo, rfl, hfj⟩ := hsf.at_ hj1
            have hbyte := byte_lt (fl[j]'(by rw [hsf.1]; exact hj1))
            have hz : ∃ wz p' D', (if j = 0 then wq.setCell ⟨bt, 1, none⟩ (.slice none 0 0) else wq) = wz ∧ InC wr bt (.slice (some ⟨fg, fo, none⟩) fm fc) K (tblN k) 1 p' D' wz ∧ GoodC 100 D' ∧ D'.length = j := by
              by_cases h : j = 0
              · rw [if_pos h]
                refine ⟨_, .slice none 0 0, [], rfl, ⟨?_, ?_, OwnG.nil _ _ _, by simp [Value.ownBlock], hbq.setCell (by simp; omega) _, by simpa using hsz, hb2⟩, GoodC.nil _, by simp [h]⟩
                · rw [heap_setCell_other _ _ _ _ (by simp; omega)]
                  exact hbf
                · rw [heap_setCell_same _ _ _ _ _ _ hbt]
                  rfl
              · rw [if_neg h]
                exact ⟨_, p, D, rfl, ⟨hbf, hbt, hod, hpt, hbq, hsz, hb2⟩, HGC.out, by rw [HDL.out, if_neg h]⟩
            have ct1 : wq.cell? ⟨bt, 1, none⟩ = some p := cell_of_row _ _ _ _ _ _ hbt
            have ft1 : wq.frozen? ⟨bt, 1, none⟩ = false := frozen_of_row _ _ _ _ _ hbt
            obtain ⟨wz, p', D', ez, hZ, hGC', hDl'⟩ := hz
            have HZ := Lib.hid hZ
            have HGC' := Lib.hid hGC'
            have HDL' := Lib.hid hDl'
            have hDl8 : D'.length ≤ 8 := by omega
            clear hGC' hDl' hZ
            generalize fl[j]'(by rw [hsf.1]; exact hj1) = b at *
            have hEZ := Lib.hid ez
            clear ez
            by_cases hj0 : j = 0
            · have hj0b : ((j : Int) == 0) = true := by simp [hj0]
              have ez : wq.setCell ⟨bt, 1, none⟩ (.slice none 0 0) = wz := by rw [← hEZ.out, if_pos hj0]
              have EZ := Lib.hid ez
              clear hj0 ez hEZ
              go_wp2
              rw [EZ.out]
              clear EZ cf0 ct1 ft1 hbf hbt hod hpt hbq hsz
              obtain ⟨hbf', hbt', hod', hpt', hbq', hsz', _⟩ := HZ.out
              have cz0 : wz.cell? ⟨wr.heap.size, 0, none⟩ = some (.slice (some ⟨fg, fo, none⟩) fm fc) := cell_of_row _ _ _ _ _ _ hbf'
              have cz1 : wz.cell? ⟨bt, 1, none⟩ = some p' := cell_of_row _ _ _ _ _ _ hbt'
              have cz2 : wz.cell? ⟨fg, fo + j, none⟩ = some (.int .u8 (b.toNat : Int)) := cell_below hbq' hfj
              have fz1 : wz.frozen? ⟨bt, 1, none⟩ = false := frozen_of_row _ _ _ _ _ hbt'
              have kcv := run_cn wz j (by omega)
              obtain ⟨r, hr, hr2⟩ : ∃ r : Int, (b.toNat : Int).tmod 2 = r ∧ (r = 0 ∨ r = 1) := ⟨_, rfl, by rw [Int.tmod_eq_emod_of_nonneg (by omega)]; omega⟩
              have HR2 := Lib.hid hr2
              have wr1 : IntKind.i64.wrap (97 + (j : Int)) = 97 + (j : Int) := IntWalk.i64_in _ (by omega)
              have wr2 : IntKind.u8.wrap (97 + (j : Int)) = 97 + (j : Int) := wrap_u8 _ (by omega) (by omega)
              have wr3 : IntKind.u8.wrap r = r := wrap_u8 _ (by omega) (by omega)
              have wr4 : IntKind.u8.wrap (1 + r) = 1 + r := wrap_u8 _ (by omega) (by omega)
              refine wp_region_noPanic (wp_region_till (fun W' => W'.cell? ⟨wr.heap.size, 0, none⟩ = some (.slice (some ⟨fg, fo, none⟩) fm fc) ∧ W'.cell? ⟨bt, 1, none⟩ = some p' ∧ W'.cell? ⟨fg, fo + j, none⟩ = some (.int .u8 (b.toNat : Int))) 18 (by kernel_rfl) ?_)
              change wpAnyT _ _ _ _ _ _ 19 _ _ _
              refine wpAnyT_take (i := 0) (v := .pointer (some ⟨bt, 1, none⟩)) rfl (by kernel_rfl) (fun _ _ _ h => h) ⟨cz0, cz1, cz2⟩ (Or.inl ⟨rfl, fun W' hW => by obtain ⟨c0, c1, c2⟩ := hW; go_simp⟩) ?_
              refine wpAnyT_take (i := 1) (v := p') rfl (by kernel_rfl) (fun _ _ _ h => h) ⟨cz0, cz1, cz2⟩ (Or.inl ⟨rfl, fun W' hW => by obtain ⟨c0, c1, c2⟩ := hW; go_simp⟩) ?_
              refine wpAnyT_take (i := 2) (v := .int .i64 (j : Int)) rfl (by kernel_rfl) (fun _ _ _ h => h) ⟨cz0, cz1, cz2⟩ (Or.inl ⟨rfl, fun W' hW => by obtain ⟨c0, c1, c2⟩ := hW; go_simp⟩) ?_
              refine wpAnyT_take (i := 3) (v := .int .i64 (97 + (j : Int))) rfl (by kernel_rfl) (fun _ _ _ h => h) ⟨cz0, cz1, cz2⟩ (Or.inl ⟨rfl, fun W' hW => by obtain ⟨c0, c1, c2⟩ := hW; go_simp⟩) ?_
              refine wpAnyT_take (i := 4) (v := .int .u8 (97 + (j : Int))) rfl (by kernel_rfl) (fun _ _ _ h => h) ⟨cz0, cz1, cz2⟩ (Or.inl ⟨rfl, fun W' hW => by obtain ⟨c0, c1, c2⟩ := hW; go_simp⟩) ?_
              refine wpAnyT_take (i := 7) (v := .pointer (some ⟨wr.heap.size, 0, none⟩)) rfl (by kernel_rfl) (fun _ _ _ h => h) ⟨cz0, cz1, cz2⟩ (Or.inl ⟨rfl, fun W' hW => by obtain ⟨c0, c1, c2⟩ := hW; go_simp⟩) ?_
              refine wpAnyT_take (i := 8) (v := .slice (some ⟨fg, fo, none⟩) fm fc) rfl (by kernel_rfl) (fun _ _ _ h => h) ⟨cz0, cz1, cz2⟩ (Or.inl ⟨rfl, fun W' hW => by obtain ⟨c0, c1, c2⟩ := hW; go_simp⟩) ?_
              refine wpAnyT_take (i := 9) (v := .int .i64 (j : Int)) rfl (by kernel_rfl) (fun _ _ _ h => h) ⟨cz0, cz1, cz2⟩ (Or.inl ⟨rfl, fun W' hW => by obtain ⟨c0, c1, c2⟩ := hW; go_simp⟩) ?_
              refine wpAnyT_take (i := 10) (v := .pointer (some ⟨fg, fo + j, none⟩)) rfl (by kernel_rfl) (fun _ _ _ h => h) ⟨cz0, cz1, cz2⟩ (Or.inl ⟨rfl, fun W' hW => by obtain ⟨c0, c1, c2⟩ := hW; go_simp⟩) ?_
              refine wpAnyT_take (i := 11) (v := .int .u8 (b.toNat : Int)) rfl (by kernel_rfl) (fun _ _ _ h => h) ⟨cz0, cz1, cz2⟩ (Or.inl ⟨rfl, fun W' hW => by obtain ⟨c0, c1, c2⟩ := hW; go_simp⟩) ?_
              refine wpAnyT_take (i := 12) (v := .int .u8 r) rfl (by kernel_rfl) (fun _ _ _ h => h) ⟨cz0, cz1, cz2⟩ (Or.inl ⟨rfl, fun W' hW => by obtain ⟨c0, c1, c2⟩ := hW; go_simp⟩) ?_
              refine wpAnyT_take (i := 13) (v := .int .u8 (1 + r)) rfl (by kernel_rfl) (fun _ _ _ h => h) ⟨cz0, cz1, cz2⟩ (Or.inl ⟨rfl, fun W' hW => by obtain ⟨c0, c1, c2⟩ := hW; go_simp⟩) ?_
              have hX : Below wz.heap.size wz ((wz.alloc (.cells #[.int .u8 (97 + (j : Int))] 5)).alloc (.cells #[.string (colN j), .int .u8 (1 + r), .bool false] 33)).drew := (((Below.refl _ _).alloc (Nat.le_refl _) _).alloc (by simp) _).drew
              refine wpAnyT_step 5 rfl (by kernel_rfl) ?_
              go_wp2_with fail
              refine ⟨.inr ⟨cell_alloc _ cz0, cell_alloc _ cz1, cell_alloc _ cz2⟩, ?_⟩
              refine wpAnyT_step 6 rfl (by kernel_rfl) ?_
              go_wp2_with fail
              refine ⟨.inr ⟨cell_alloc _ cz0, cell_alloc _ cz1, cell_alloc _ cz2⟩, ?_⟩
              refine wpAnyT_take (i := 14) (v := .agg #[.string (colN j), .int .u8 (1 + r), .bool false]) rfl (by kernel_rfl) (fun _ _ _ h => h) ⟨cell_alloc _ cz0, cell_alloc _ cz1, cell_alloc _ cz2⟩ (Or.inl ⟨rfl, fun W' hW => by go_simp⟩) ?_
              refine wpAnyT_step 15 rfl (by kernel_rfl) ?_
              go_wp2_with fail
              refine ⟨.inr ⟨cell_alloc _ (cell_alloc _ cz0), cell_alloc _ (cell_alloc _ cz1), cell_alloc _ (cell_alloc _ cz2)⟩, ?_⟩
              refine wpAnyT_step 16 rfl (by kernel_rfl) ?_
              refine wpList_append_G _ rfl (.tmp 54) (.tmp 68) _ _ _ _ colT rfl (wr.heap.size + 2) p' D' rfl ((hod'.alloc _).alloc _) _ 1 1 [⟨colN j, 1 + r, false⟩] rfl (SegG.newAt _ _ _ _ _ _ (by simp) rfl rfl) (by omega) (by have := hbq'.size; simp; omega) ?_
              intro v1 w1 hown1 hg1 hat1
              obtain ⟨D3, hD3⟩ : ∃ D3, D' ++ [⟨colN j, 1 + r, false⟩] = D3 := ⟨_, rfl⟩
              rw [hD3] at hown1
              have hgc3 : GoodC 100 D3 := by rw [← hD3]; exact GoodC.snoc HGC'.out HDL'.out (by rcases HR2.out with h | h <;> simp [h])
              have hdl3 : D3.length = (if j + 1 = 0 then 1 else j + 1) := by rw [← hD3, List.length_append, HDL'.out]; simp
              have HGC3 := Lib.hid hgc3
              have HDL3 := Lib.hid hdl3
              clear hD3 hgc3 hdl3
              have hpl : ∀ x, p'.ownBlock = some x → wr.heap.size + 2 ≤ x := fun x hx => (hod'.lt x hx).1
              have hfg : fg < wr.heap.size := World.block_lt_of_cell? _ _ hfj
              have n0 : some wr.heap.size ≠ p'.ownBlock := fun e => by have := hpl _ e.symm; omega
              have n1 : some bt ≠ p'.ownBlock := fun e => hpt' e.symm
              have n2 : some fg ≠ p'.ownBlock := fun e => by have := hpl _ e.symm; omega
              have d0 := hg1.cell (a := ⟨wr.heap.size, 0, none⟩) (cell_alloc _ (cell_alloc _ cz0)) n0
              have d1 := hg1.cell (a := ⟨bt, 1, none⟩) (cell_alloc _ (cell_alloc _ cz1)) n1
              have d2 := hg1.cell (a := ⟨fg, fo + j, none⟩) (cell_alloc _ (cell_alloc _ cz2)) n2
              have d3 : w1.frozen? ⟨bt, 1, none⟩ = false := (hg1.frozen_far ⟨bt, 1, none⟩ (by simp; omega) n1).trans (by rw [(hX.frozen (p := ⟨bt, 1, none⟩) hsz' : _ = _)]; exact fz1)
              have hin := InC.push HZ.out hX hown1 hg1 hat1
              obtain ⟨A1, c1, rfl, hs1, hlc1, hcm1⟩ := hown1.forms
              have HIN := Lib.hid hin
              clear hin
              change (_ ∨ _) ∧ wpAnyT _ _ _ _ _ _ 2 _ _ w1
              refine ⟨.inr ⟨d0, d1, d2⟩, ?_⟩
              refine wpAnyT_take (i := 17) (v := .pointer (some ⟨bt, 1, none⟩)) rfl (by kernel_rfl) (fun _ _ _ h => h) ⟨d0, d1, d2⟩ (Or.inl ⟨rfl, fun W' hW => by go_simp⟩) ?_
              refine wpAnyT_step 18 rfl (by kernel_rfl) ?_
              go_wp2_with fail
              refine ⟨.inl trivial, ?_⟩
              refine wpAnyT_done (by kernel_rfl) (NoPanic.normal ?_)
              go_wp2
              go_roundw
              case rel => exact ⟨j + 1, _, fm, fc, fl, K, _, D3, by go_num, by omega, by omega, hsf, hfc, hfcm, hK0, hK1, HIN.out, HGC3.out, HDL3.out⟩
              case measure => simp [intOf]; omega
            · have hj0b : ((j : Int) == 0) = false := by simp [hj0]
              have ez : wq = wz := by rw [← hEZ.out, if_neg hj0]
              subst ez
              clear hj0 hEZ
              go_wp2
              clear cf0 ct1 ft1 hbf hbt hod hpt hbq hsz
              obtain ⟨hbf', hbt', hod', hpt', hbq', hsz', _⟩ := HZ.out
              have cz0 : wq.cell? ⟨wr.heap.size, 0, none⟩ = some (.slice (some ⟨fg, fo, none⟩) fm fc) := cell_of_row _ _ _ _ _ _ hbf'
              have cz1 : wq.cell? ⟨bt, 1, none⟩ = some p' := cell_of_row _ _ _ _ _ _ hbt'
              have cz2 : wq.cell? ⟨fg, fo + j, none⟩ = some (.int .u8 (b.toNat : Int)) := cell_below hbq' hfj
              have fz1 : wq.frozen? ⟨bt, 1, none⟩ = false := frozen_of_row _ _ _ _ _ hbt'
              have kcv := run_cn wq j (by omega)
              obtain ⟨r, hr, hr2⟩ : ∃ r : Int, (b.toNat : Int).tmod 2 = r ∧ (r = 0 ∨ r = 1) := ⟨_, rfl, by rw [Int.tmod_eq_emod_of_nonneg (by omega)]; omega⟩
              have HR2 := Lib.hid hr2
              have wr1 : IntKind.i64.wrap (97 + (j : Int)) = 97 + (j : Int) := IntWalk.i64_in _ (by omega)
              have wr2 : IntKind.u8.wrap (97 + (j : Int)) = 97 + (j : Int) := wrap_u8 _ (by omega) (by omega)
              have wr3 : IntKind.u8.wrap r = r := wrap_u8 _ (by omega) (by omega)
              have wr4 : IntKind.u8.wrap (1 + r) = 1 + r := wrap_u8 _ (by omega) (by omega)
              refine wp_region_noPanic (wp_region_till (fun W' => W'.cell? ⟨wr.heap.size, 0, none⟩ = some (.slice (some ⟨fg, fo, none⟩) fm fc) ∧ W'.cell? ⟨bt, 1, none⟩ = some p' ∧ W'.cell? ⟨fg, fo + j, none⟩ = some (.int .u8 (b.toNat : Int))) 18 (by kernel_rfl) ?_)
              change wpAnyT _ _ _ _ _ _ 19 _ _ _
              refine wpAnyT_take (i := 0) (v := .pointer (some ⟨bt, 1, none⟩)) rfl (by kernel_rfl) (fun _ _ _ h => h) ⟨cz0, cz1, cz2⟩ (Or.inl ⟨rfl, fun W' hW => by obtain ⟨c0, c1, c2⟩ := hW; go_simp⟩) ?_
              refine wpAnyT_take (i := 1) (v := p') rfl (by kernel_rfl) (fun _ _ _ h => h) ⟨cz0, cz1, cz2⟩ (Or.inl ⟨rfl, fun W' hW => by obtain ⟨c0, c1, c2⟩ := hW; go_simp⟩) ?_
              refine wpAnyT_take (i := 2) (v := .int .i64 (j : Int)) rfl (by kernel_rfl) (fun _ _ _ h => h) ⟨cz0, cz1, cz2⟩ (Or.inl ⟨rfl, fun W' hW => by obtain ⟨c0, c1, c2⟩ := hW; go_simp⟩) ?_
              refine wpAnyT_take (i := 3) (v := .int .i64 (97 + (j : Int))) rfl (by kernel_rfl) (fun _ _ _ h => h) ⟨cz0, cz1, cz2⟩ (Or.inl ⟨rfl, fun W' hW => by obtain ⟨c0, c1, c2⟩ := hW; go_simp⟩) ?_
              refine wpAnyT_take (i := 4) (v := .int .u8 (97 + (j : Int))) rfl (by kernel_rfl) (fun _ _ _ h => h) ⟨cz0, cz1, cz2⟩ (Or.inl ⟨rfl, fun W' hW => by obtain ⟨c0, c1, c2⟩ := hW; go_simp⟩) ?_
              refine wpAnyT_take (i := 7) (v := .pointer (some ⟨wr.heap.size, 0, none⟩)) rfl (by kernel_rfl) (fun _ _ _ h => h) ⟨cz0, cz1, cz2⟩ (Or.inl ⟨rfl, fun W' hW => by obtain ⟨c0, c1, c2⟩ := hW; go_simp⟩) ?_
              refine wpAnyT_take (i := 8) (v := .slice (some ⟨fg, fo, none⟩) fm fc) rfl (by kernel_rfl) (fun _ _ _ h => h) ⟨cz0, cz1, cz2⟩ (Or.inl ⟨rfl, fun W' hW => by obtain ⟨c0, c1, c2⟩ := hW; go_simp⟩) ?_
              refine wpAnyT_take (i := 9) (v := .int .i64 (j : Int)) rfl (by kernel_rfl) (fun _ _ _ h => h) ⟨cz0, cz1, cz2⟩ (Or.inl ⟨rfl, fun W' hW => by obtain ⟨c0, c1, c2⟩ := hW; go_simp⟩) ?_
              refine wpAnyT_take (i := 10) (v := .pointer (some ⟨fg, fo + j, none⟩)) rfl (by kernel_rfl) (fun _ _ _ h => h) ⟨cz0, cz1, cz2⟩ (Or.inl ⟨rfl, fun W' hW => by obtain ⟨c0, c1, c2⟩ := hW; go_simp⟩) ?_
              refine wpAnyT_take (i := 11) (v := .int .u8 (b.toNat : Int)) rfl (by kernel_rfl) (fun _ _ _ h => h) ⟨cz0, cz1, cz2⟩ (Or.inl ⟨rfl, fun W' hW => by obtain ⟨c0, c1, c2⟩ := hW; go_simp⟩) ?_
              refine wpAnyT_take (i := 12) (v := .int .u8 r) rfl (by kernel_rfl) (fun _ _ _ h => h) ⟨cz0, cz1, cz2⟩ (Or.inl ⟨rfl, fun W' hW => by obtain ⟨c0, c1, c2⟩ := hW; go_simp⟩) ?_
              refine wpAnyT_take (i := 13) (v := .int .u8 (1 + r)) rfl (by kernel_rfl) (fun _ _ _ h => h) ⟨cz0, cz1, cz2⟩ (Or.inl ⟨rfl, fun W' hW => by obtain ⟨c0, c1, c2⟩ := hW; go_simp⟩) ?_
              have hX : Below wq.heap.size wq ((wq.alloc (.cells #[.int .u8 (97 + (j : Int))] 5)).alloc (.cells #[.string (colN j), .int .u8 (1 + r), .bool false] 33)).drew := (((Below.refl _ _).alloc (Nat.le_refl _) _).alloc (by simp) _).drew
              refine wpAnyT_step 5 rfl (by kernel_rfl) ?_
              go_wp2_with fail
              refine ⟨.inr ⟨cell_alloc _ cz0, cell_alloc _ cz1, cell_alloc _ cz2⟩, ?_⟩
              refine wpAnyT_step 6 rfl (by kernel_rfl) ?_
              go_wp2_with fail
              refine ⟨.inr ⟨cell_alloc _ cz0, cell_alloc _ cz1, cell_alloc _ cz2⟩, ?_⟩
              refine wpAnyT_take (i := 14) (v := .agg #[.string (colN j), .int .u8 (1 + r), .bool false]) rfl (by kernel_rfl) (fun _ _ _ h => h) ⟨cell_alloc _ cz0, cell_alloc _ cz1, cell_alloc _ cz2⟩ (Or.inl ⟨rfl, fun W' hW => by go_simp⟩) ?_
              refine wpAnyT_step 15 rfl (by kernel_rfl) ?_
              go_wp2_with fail
              refine ⟨.inr ⟨cell_alloc _ (cell_alloc _ cz0), cell_alloc _ (cell_alloc _ cz1), cell_alloc _ (cell_alloc _ cz2)⟩, ?_⟩
              refine wpAnyT_step 16 rfl (by kernel_rfl) ?_
              refine wpList_append_G _ rfl (.tmp 54) (.tmp 68) _ _ _ _ colT rfl (wr.heap.size + 2) p' D' rfl ((hod'.alloc _).alloc _) _ 1 1 [⟨colN j, 1 + r, false⟩] rfl (SegG.newAt _ _ _ _ _ _ (by simp) rfl rfl) (by omega) (by have := hbq'.size; simp; omega) ?_
              intro v1 w1 hown1 hg1 hat1
              obtain ⟨D3, hD3⟩ : ∃ D3, D' ++ [⟨colN j, 1 + r, false⟩] = D3 := ⟨_, rfl⟩
              rw [hD3] at hown1
              have hgc3 : GoodC 100 D3 := by rw [← hD3]; exact GoodC.snoc HGC'.out HDL'.out (by rcases HR2.out with h | h <;> simp [h])
              have hdl3 : D3.length = (if j + 1 = 0 then 1 else j + 1) := by rw [← hD3, List.length_append, HDL'.out]; simp
              have HGC3 := Lib.hid hgc3
              have HDL3 := Lib.hid hdl3
              clear hD3 hgc3 hdl3
              have hpl : ∀ x, p'.ownBlock = some x → wr.heap.size + 2 ≤ x := fun x hx => (hod'.lt x hx).1
              have hfg : fg < wr.heap.size := World.block_lt_of_cell? _ _ hfj
              have n0 : some wr.heap.size ≠ p'.ownBlock := fun e => by have := hpl _ e.symm; omega
              have n1 : some bt ≠ p'.ownBlock := fun e => hpt' e.symm
              have n2 : some fg ≠ p'.ownBlock := fun e => by have := hpl _ e.symm; omega
              have d0 := hg1.cell (a := ⟨wr.heap.size, 0, none⟩) (cell_alloc _ (cell_alloc _ cz0)) n0
              have d1 := hg1.cell (a := ⟨bt, 1, none⟩) (cell_alloc _ (cell_alloc _ cz1)) n1
              have d2 := hg1.cell (a := ⟨fg, fo + j, none⟩) (cell_alloc _ (cell_alloc _ cz2)) n2
              have d3 : w1.frozen? ⟨bt, 1, none⟩ = false := (hg1.frozen_far ⟨bt, 1, none⟩ (by simp; omega) n1).trans (by rw [(hX.frozen (p := ⟨bt, 1, none⟩) hsz' : _ = _)]; exact fz1)
              have hin := InC.push HZ.out hX hown1 hg1 hat1
              obtain ⟨A1, c1, rfl, hs1, hlc1, hcm1⟩ := hown1.forms
              have HIN := Lib.hid hin
              clear hin
              change (_ ∨ _) ∧ wpAnyT _ _ _ _ _ _ 2 _ _ w1
              refine ⟨.inr ⟨d0, d1, d2⟩, ?_⟩
              refine wpAnyT_take (i := 17) (v := .pointer (some ⟨bt, 1, none⟩)) rfl (by kernel_rfl) (fun _ _ _ h => h) ⟨d0, d1, d2⟩ (Or.inl ⟨rfl, fun W' hW => by go_simp⟩) ?_
              refine wpAnyT_step 18 rfl (by kernel_rfl) ?_
              go_wp2_with fail
              refine ⟨.inl trivial, ?_⟩
              refine wpAnyT_done (by kernel_rfl) (NoPanic.normal ?_)
              go_wp2
              go_roundw
              case rel => exact ⟨j + 1, _, fm, fc, fl, K, _, D3, by go_num, by omega, by omega, hsf, hfc, hfcm, hK0, hK1, HIN.out, HGC3.out, HDL3.out⟩
              case measure => simp [intOf]; omega
          · have hD1 : 1 ≤ D.length ∧ D.length ≤ 8 := by
              rw [HDL.out]
              by_cases h : j = 0
              · rw [if_pos h]; omega
              · rw [if_neg h]; omega
            have HIN0 := Lib.hid (show InC wr bt (.slice fB fm fc) K (tblN k) 1 p D wq from ⟨hbf, hbt, hod, hpt, hbq, hsz, hb2⟩)
            obtain ⟨Ap, cp, rfl, hsp, hlcp, hcmp⟩ := hod.forms
            obtain ⟨N, hN⟩ : ∃ N, D.length = N := ⟨_, rfl⟩
            rw [hN] at HIN0 hbt hD1 hlcp
            have HN := Lib.hid hN
            have cf1 : wq.cell? ⟨wr.heap.size, 1, none⟩ = some (.int .u8 K) := cell_of_row _ _ _ _ _ _ hbf
            have ct1 : wq.cell? ⟨bt, 1, none⟩ = some (.slice Ap N cp) := cell_of_row _ _ _ _ _ _ hbt
            have ct2 : wq.cell? ⟨bt, 2, none⟩ = some (.int .i64 1) := cell_of_row _ _ _ _ _ _ hbt
            have ft2 : wq.frozen? ⟨bt, 2, none⟩ = false := frozen_of_row _ _ _ _ _ hbt
            clear hN hbf hbt hod hpt hbq hsp
            have hN0 : ((N : Int) == 0) = false := by rw [beq_eq_false_iff_ne]; omega
            obtain ⟨m, hm⟩ : ∃ m : Nat, K % (N : Int) = (m : Int) := ⟨(K % (N : Int)).toNat, by have := Int.emod_nonneg K (show (N : Int) ≠ 0 by omega); omega⟩
            have HD1 := Lib.hid hD1
            have hmN : m < N := by have := Int.emod_lt_of_pos K (show (0 : Int) < (N : Int) by omega); omega
            by_cases hjf : j < fm
            · have hj8' : (8 : Int) ≤ (j : Int) := by omega
              have hj8b : decide ((j : Int) < 8) = false := decide_eq_false (by omega)
              have hjf' : (j : Int) < (fm : Int) := by omega
              go_wp2
              have hin := InC.setK HIN0.out (1 + (m : Int))
              generalize wq.setCell ⟨bt, 2, none⟩ (.int .i64 (1 + (m : Int))) = wy at *
              have HINY := Lib.hid hin
              clear hin cf0 cf1 ct1 ct2 ft2
              rw [hm]
              clear hm
              go_loopw [8] (fun i w' => ∃ (m2 : Nat) (D2 : List Col), i = .int .i64 m2 ∧ m + 1 ≤ m2 ∧ m2 ≤ N ∧ D2.length = N ∧ GoodC (1 + (m : Int)) D2 ∧ InC wr bt (.slice fB fm fc) K (tblN k) (1 + (m : Int)) (.slice Ap N cp) D2 w') (fun i _ => N - (intOf i).toNat)
              case atStart => exact ⟨m + 1, D, by go_num, Nat.le_refl _, by omega, HN.out, HGC.out.mono (by omega), HINY.out⟩
              case round =>
                rename World => wv
                obtain ⟨m2, D2, rfl, hm2, hm2N, hN2, hGC2, hin⟩ := hrel
                have HN2 := Lib.hid hN2
                have HGC2 := Lib.hid hGC2
                have HIN := Lib.hid hin
                obtain ⟨hbf, hbt, hod, hpt, hbv, hsz, _⟩ := hin
                have cf0 : wv.cell? ⟨wr.heap.size, 0, none⟩ = some (.slice fB fm fc) := cell_of_row _ _ _ _ _ _ hbf
                have ct1 : wv.cell? ⟨bt, 1, none⟩ = some (.slice Ap N cp) := cell_of_row _ _ _ _ _ _ hbt
                have hsv := hsf.below hbv
                by_cases hgo2 : m2 < N ∧ m2 < fm
                · obtain ⟨hg1, hg2⟩ := hgo2
                  obtain ⟨g2, c2, e2, hcb0, hfb, _, _, hset⟩ := InC.setN HIN.out m2 (by omega)
                  obtain ⟨bb, hcb⟩ : ∃ bb, wv.cell? ⟨g2, m2 * 3 + 2, none⟩ = some (.bool bb) := ⟨_, hcb0⟩
                  clear hcb0
                  injection e2 with e21 e22 e23
                  subst e21
                  clear e22 e23
                  obtain ⟨fg, fo, rfl, hfj⟩ := hsv.at_ hg2
                  have hbyte := byte_lt (fl[m2]'(by rw [hsf.1]; exact hg2))
                  have HGS := Lib.hid (GoodC.set_ hGC2 m2 (by omega) (by omega))
                  have HLS := Lib.hid (show ∀ x : Col, (D2.set m2 x).length = N from fun x => by rw [List.length_set, hN2])
                  have HSET := Lib.hid hset
                  clear hset hGC2
                  generalize fl[m2]'(by rw [hsf.1]; exact hg2) = b at *
                  obtain ⟨r, hr, hr2⟩ : ∃ r : Int, (b.toNat : Int).tmod 4 = r ∧ (0 ≤ r ∧ r < 4) := ⟨_, rfl, by rw [Int.tmod_eq_emod_of_nonneg (by omega)]; omega⟩
                  have wr3 : IntKind.u8.wrap r = r := wrap_u8 _ (by omega) (by omega)
                  have hi1 : (m2 : Int) < (N : Int) := by omega
                  have hi2 : (m2 : Int) < (fm : Int) := by omega
                  have hi0 : (0 : Int) ≤ (m2 : Int) := by omega
                  clear hbf hbt hod hpt hr2
                  go_wp2
                  refine wp_region_noPanic (wp_region_till (fun W' => W'.cell? ⟨wr.heap.size, 0, none⟩ = some (.slice (some ⟨fg, fo, none⟩) fm fc) ∧ W'.cell? ⟨bt, 1, none⟩ = some (.slice (some ⟨g2, 0, none⟩) N cp) ∧ W'.cell? ⟨fg, fo + m2, none⟩ = some (.int .u8 (b.toNat : Int))) 12 (by kernel_rfl) ?_)
                  change wpAnyT _ _ _ _ _ _ 13 _ _ _
                  refine wpAnyT_take (i := 0) (v := .pointer (some ⟨bt, 1, none⟩)) rfl (by decide +kernel) (fun _ _ _ h => h) ⟨cf0, ct1, hfj⟩ (Or.inl ⟨rfl, fun W' hW => by obtain ⟨c0, c1, c2⟩ := hW; go_simp⟩) ?_
                  refine wpAnyT_take (i := 1) (v := .slice (some ⟨g2, 0, none⟩) N cp) rfl (by decide +kernel) (fun _ _ _ h => h) ⟨cf0, ct1, hfj⟩ (Or.inl ⟨rfl, fun W' hW => by obtain ⟨c0, c1, c2⟩ := hW; go_simp⟩) ?_
                  refine wpAnyT_take (i := 2) (v := .int .i64 (m2 : Int)) rfl (by decide +kernel) (fun _ _ _ h => h) ⟨cf0, ct1, hfj⟩ (Or.inl ⟨rfl, fun W' hW => by obtain ⟨c0, c1, c2⟩ := hW; go_simp⟩) ?_
                  refine wpAnyT_take (i := 3) (v := .pointer (some ⟨wr.heap.size, 0, none⟩)) rfl (by decide +kernel) (fun _ _ _ h => h) ⟨cf0, ct1, hfj⟩ (Or.inl ⟨rfl, fun W' hW => by obtain ⟨c0, c1, c2⟩ := hW; go_simp⟩) ?_
                  refine wpAnyT_take (i := 4) (v := .slice (some ⟨fg, fo, none⟩) fm fc) rfl (by decide +kernel) (fun _ _ _ h => h) ⟨cf0, ct1, hfj⟩ (Or.inl ⟨rfl, fun W' hW => by obtain ⟨c0, c1, c2⟩ := hW; go_simp⟩) ?_
                  refine wpAnyT_take (i := 5) (v := .int .i64 (m2 : Int)) rfl (by decide +kernel) (fun _ _ _ h => h) ⟨cf0, ct1, hfj⟩ (Or.inl ⟨rfl, fun W' hW => by obtain ⟨c0, c1, c2⟩ := hW; go_simp⟩) ?_
                  refine wpAnyT_take (i := 6) (v := .pointer (some ⟨fg, fo + m2, none⟩)) rfl (by decide +kernel) (fun _ _ _ h => h) ⟨cf0, ct1, hfj⟩ (Or.inl ⟨rfl, fun W' hW => by obtain ⟨c0, c1, c2⟩ := hW; go_simp⟩) ?_
                  refine wpAnyT_take (i := 7) (v := .int .u8 (b.toNat : Int)) rfl (by decide +kernel) (fun _ _ _ h => h) ⟨cf0, ct1, hfj⟩ (Or.inl ⟨rfl, fun W' hW => by obtain ⟨c0, c1, c2⟩ := hW; go_simp⟩) ?_
                  refine wpAnyT_take (i := 8) (v := .int .u8 r) rfl (by decide +kernel) (fun _ _ _ h => h) ⟨cf0, ct1, hfj⟩ (Or.inl ⟨rfl, fun W' hW => by obtain ⟨c0, c1, c2⟩ := hW; go_simp⟩) ?_
                  refine wpAnyT_take (i := 9) (v := .bool (decide (2 ≤ r))) rfl (by decide +kernel) (fun _ _ _ h => h) ⟨cf0, ct1, hfj⟩ (Or.inl ⟨rfl, fun W' hW => by obtain ⟨c0, c1, c2⟩ := hW; go_simp⟩) ?_
                  refine wpAnyT_step 10 rfl (by decide +kernel) ?_
                  go_wp2_with fail
                  refine ⟨.inr ⟨cf0, ct1, hfj⟩, ?_⟩
                  refine wpAnyT_step 11 rfl (by decide +kernel) ?_
                  go_wp2_with fail
                  refine ⟨.inr ⟨cf0, ct1, hfj⟩, ?_⟩
                  refine wpAnyT_step 12 rfl (by decide +kernel) ?_
                  go_wp2_with fail
                  refine ⟨.inl trivial, ?_⟩
                  refine wpAnyT_done (by kernel_rfl) (NoPanic.normal ?_)
                  go_wp2
                  go_roundw
                  case rel => exact ⟨m2 + 1, _, by go_num, by omega, by omega, HLS.out _, HGS.out _, (HSET.out _).drew⟩
                  case measure => simp [intOf]; omega
                · have hbt0 : wv.cell? ⟨bt, 0, none⟩ = some (.string (tblN k)) := cell_of_row _ _ _ _ _ _ hbt
                  have hbt2 : wv.cell? ⟨bt, 2, none⟩ = some (.int .i64 (1 + (m : Int))) := cell_of_row _ _ _ _ _ _ hbt
                  have hX : Below wr.heap.size wr (wv.alloc (.cells #[.string (tblN k), .slice Ap N cp, .int .i64 (1 + (m : Int))] 30)) := hbv.alloc hbv.size _
                  obtain ⟨S, hS1, hS2, hS3⟩ := HT.out.below hX
                  have hodX := (OwnG.mono hod (b := w.heap.size) (by have := hbw.size; omega)).alloc (.cells #[.string (tblN k), .slice Ap N cp, .int .i64 (1 + (m : Int))] 30)
                  have hpn : (Value.slice Ap N cp).ownBlock ≠ none := by
                    obtain ⟨g2, c2, e2, _⟩ := InC.setN HIN.out 0 (by omega)
                    rw [e2]
                    simp [Value.ownBlock]
                  have hpv : (Value.slice Ap N cp).ownBlock ≠ (Value.slice At k ct).ownBlock := by
                    rcases hq : (Value.slice At k ct).ownBlock with _ | x
                    · exact hpn
                    · intro e
                      obtain ⟨S0, hS0, _⟩ := HT.out
                      have h1 := (hS0.lt x hq).2
                      have h2 := (hod.lt x e).1
                      omega
                  have HS2 := Lib.hid hS2
                  have HS3 := Lib.hid hS3
                  have HPN := Lib.hid hpn
                  have HPV := Lib.hid hpv
                  clear hbf hbt hod hpt hN2 hGC2 hsv hS2 hS3 hpn hpv
                  by_cases hmN2 : m2 < N
                  · exfalso
                    have h1 := HDL.out
                    have h2 := HN.out
                    have h3 := HD1.out
                    by_cases h : j = 0
                    · rw [if_pos h] at h1
                      omega
                    · rw [if_neg h] at h1
                      omega
                  · have t1 : (N : Int) ≤ (m2 : Int) := by omega
                    clear hgo2 hmN2
                    go_wp2_with (
                      at_builtin
                      refine wpList_append_G _ rfl (.tmp 108) (.tmp 110) _ _ _ _ tblT rfl w.heap.size (.slice At k ct) S rfl hS1 _ 1 1 [⟨tblN k, Ap, N, cp, 1 + (m : Int)⟩] rfl (SegG.newAt _ _ _ _ _ _ rfl rfl rfl) (by rw [HS2.out, HTL.out]; omega) (by have := hbw.size; have := hbv.size; simp; omega) ?_
                      intro v3 w3 ho3 hg3 hat3
                      have hpush := TabsIn.pushed (t := ⟨tblN k, D2, 1 + (m : Int)⟩) ho3 HS2.out HS3.out hg3 hat3 ⟨rfl, rfl, HN2.out.symm, hodX, HPN.out, HPV.out⟩
                      have hbw3 : Below w.heap.size w w3 := below_grownG (hbw.trans (hX.mono hbw.size)) hS1 hg3 (Nat.le_refl _) (by have := hbw.size; have := hbv.size; simp; omega)
                      have HP := Lib.hid hpush
                      clear hpush ho3 hg3 hat3)
                    go_roundw
                    case rel =>
                      refine ⟨k + 1, T ++ [⟨tblN k, D2, 1 + (m : Int)⟩], by omega, by omega, by go_num, by rw [List.length_append, HTL.out]; rfl, GoodT.snoc HGT.out HTL.out ⟨rfl, ?_⟩, HP.out, hbw3⟩
                      have h1 := HN2.out
                      have h2 := HD1.out
                      exact ⟨by show 1 ≤ D2.length; omega, by show D2.length ≤ 8; omega, by show (1 : Int) ≤ 1 + (m : Int); omega, by show (1 + (m : Int)) ≤ (D2.length : Int); omega, GoodC.ok HGC2.out (by show D2.length ≤ 8; omega)⟩
                    case measure => simp [intOf]; omega
            · have hjf' : (fm : Int) ≤ (j : Int) := by omega
              go_wp2
              have hin := InC.setK HIN0.out (1 + (m : Int))
              generalize wq.setCell ⟨bt, 2, none⟩ (.int .i64 (1 + (m : Int))) = wy at *
              have HINY := Lib.hid hin
              clear hin cf0 cf1 ct1 ct2 ft2
              rw [hm]
              clear hm
              go_loopw [8] (fun i w' => ∃ (m2 : Nat) (D2 : List Col), i = .int .i64 m2 ∧ m + 1 ≤ m2 ∧ m2 ≤ N ∧ D2.length = N ∧ GoodC (1 + (m : Int)) D2 ∧ InC wr bt (.slice fB fm fc) K (tblN k) (1 + (m : Int)) (.slice Ap N cp) D2 w') (fun i _ => N - (intOf i).toNat)
              case atStart => exact ⟨m + 1, D, by go_num, Nat.le_refl _, by omega, HN.out, HGC.out.mono (by omega), HINY.out⟩
              case round =>
                rename World => wv
                obtain ⟨m2, D2, rfl, hm2, hm2N, hN2, hGC2, hin⟩ := hrel
                have HN2 := Lib.hid hN2
                have HGC2 := Lib.hid hGC2
                have HIN := Lib.hid hin
                obtain ⟨hbf, hbt, hod, hpt, hbv, hsz, _⟩ := hin
                have cf0 : wv.cell? ⟨wr.heap.size, 0, none⟩ = some (.slice fB fm fc) := cell_of_row _ _ _ _ _ _ hbf
                have ct1 : wv.cell? ⟨bt, 1, none⟩ = some (.slice Ap N cp) := cell_of_row _ _ _ _ _ _ hbt
                have hsv := hsf.below hbv
                by_cases hgo2 : m2 < N ∧ m2 < fm
                · obtain ⟨hg1, hg2⟩ := hgo2
                  obtain ⟨g2, c2, e2, hcb0, hfb, _, _, hset⟩ := InC.setN HIN.out m2 (by omega)
                  obtain ⟨bb, hcb⟩ : ∃ bb, wv.cell? ⟨g2, m2 * 3 + 2, none⟩ = some (.bool bb) := ⟨_, hcb0⟩
                  clear hcb0
                  injection e2 with e21 e22 e23
                  subst e21
                  clear e22 e23
                  obtain ⟨fg, fo, rfl, hfj⟩ := hsv.at_ hg2
                  have hbyte := byte_lt (fl[m2]'(by rw [hsf.1]; exact hg2))
                  have HGS := Lib.hid (GoodC.set_ hGC2 m2 (by omega) (by omega))
                  have HLS := Lib.hid (show ∀ x : Col, (D2.set m2 x).length = N from fun x => by rw [List.length_set, hN2])
                  have HSET := Lib.hid hset
                  clear hset hGC2
                  generalize fl[m2]'(by rw [hsf.1]; exact hg2) = b at *
                  obtain ⟨r, hr, hr2⟩ : ∃ r : Int, (b.toNat : Int).tmod 4 = r ∧ (0 ≤ r ∧ r < 4) := ⟨_, rfl, by rw [Int.tmod_eq_emod_of_nonneg (by omega)]; omega⟩
                  have wr3 : IntKind.u8.wrap r = r := wrap_u8 _ (by omega) (by omega)
                  have hi1 : (m2 : Int) < (N : Int) := by omega
                  have hi2 : (m2 : Int) < (fm : Int) := by omega
                  have hi0 : (0 : Int) ≤ (m2 : Int) := by omega
                  clear hbf hbt hod hpt hr2
                  go_wp2
                  refine wp_region_noPanic (wp_region_till (fun W' => W'.cell? ⟨wr.heap.size, 0, none⟩ = some (.slice (some ⟨fg, fo, none⟩) fm fc) ∧ W'.cell? ⟨bt, 1, none⟩ = some (.slice (some ⟨g2, 0, none⟩) N cp) ∧ W'.cell? ⟨fg, fo + m2, none⟩ = some (.int .u8 (b.toNat : Int))) 12 (by kernel_rfl) ?_)
                  change wpAnyT _ _ _ _ _ _ 13 _ _ _
                  refine wpAnyT_take (i := 0) (v := .pointer (some ⟨bt, 1, none⟩)) rfl (by decide +kernel) (fun _ _ _ h => h) ⟨cf0, ct1, hfj⟩ (Or.inl ⟨rfl, fun W' hW => by obtain ⟨c0, c1, c2⟩ := hW; go_simp⟩) ?_
                  refine wpAnyT_take (i := 1) (v := .slice (some ⟨g2, 0, none⟩) N cp) rfl (by decide +kernel) (fun _ _ _ h => h) ⟨cf0, ct1, hfj⟩ (Or.inl ⟨rfl, fun W' hW => by obtain ⟨c0, c1, c2⟩ := hW; go_simp⟩) ?_
                  refine wpAnyT_take (i := 2) (v := .int .i64 (m2 : Int)) rfl (by decide +kernel) (fun _ _ _ h => h) ⟨cf0, ct1, hfj⟩ (Or.inl ⟨rfl, fun W' hW => by obtain ⟨c0, c1, c2⟩ := hW; go_simp⟩) ?_
                  refine wpAnyT_take (i := 3) (v := .pointer (some ⟨wr.heap.size, 0, none⟩)) rfl (by decide +kernel) (fun _ _ _ h => h) ⟨cf0, ct1, hfj⟩ (Or.inl ⟨rfl, fun W' hW => by obtain ⟨c0, c1, c2⟩ := hW; go_simp⟩) ?_
                  refine wpAnyT_take (i := 4) (v := .slice (some ⟨fg, fo, none⟩) fm fc) rfl (by decide +kernel) (fun _ _ _ h => h) ⟨cf0, ct1, hfj⟩ (Or.inl ⟨rfl, fun W' hW => by obtain ⟨c0, c1, c2⟩ := hW; go_simp⟩) ?_
                  refine wpAnyT_take (i := 5) (v := .int .i64 (m2 : Int)) rfl (by decide +kernel) (fun _ _ _ h => h) ⟨cf0, ct1, hfj⟩ (Or.inl ⟨rfl, fun W' hW => by obtain ⟨c0, c1, c2⟩ := hW; go_simp⟩) ?_
                  refine wpAnyT_take (i := 6) (v := .pointer (some ⟨fg, fo + m2, none⟩)) rfl (by decide +kernel) (fun _ _ _ h => h) ⟨cf0, ct1, hfj⟩ (Or.inl ⟨rfl, fun W' hW => by obtain ⟨c0, c1, c2⟩ := hW; go_simp⟩) ?_
                  refine wpAnyT_take (i := 7) (v := .int .u8 (b.toNat : Int)) rfl (by decide +kernel) (fun _ _ _ h => h) ⟨cf0, ct1, hfj⟩ (Or.inl ⟨rfl, fun W' hW => by obtain ⟨c0, c1, c2⟩ := hW; go_simp⟩) ?_
                  refine wpAnyT_take (i := 8) (v := .int .u8 r) rfl (by decide +kernel) (fun _ _ _ h => h) ⟨cf0, ct1, hfj⟩ (Or.inl ⟨rfl, fun W' hW => by obtain ⟨c0, c1, c2⟩ := hW; go_simp⟩) ?_
                  refine wpAnyT_take (i := 9) (v := .bool (decide (2 ≤ r))) rfl (by decide +kernel) (fun _ _ _ h => h) ⟨cf0, ct1, hfj⟩ (Or.inl ⟨rfl, fun W' hW => by obtain ⟨c0, c1, c2⟩ := hW; go_simp⟩) ?_
                  refine wpAnyT_step 10 rfl (by decide +kernel) ?_
                  go_wp2_with fail
                  refine ⟨.inr ⟨cf0, ct1, hfj⟩, ?_⟩
                  refine wpAnyT_step 11 rfl (by decide +kernel) ?_
                  go_wp2_with fail
                  refine ⟨.inr ⟨cf0, ct1, hfj⟩, ?_⟩
                  refine wpAnyT_step 12 rfl (by decide +kernel) ?_
                  go_wp2_with fail
                  refine ⟨.inl trivial, ?_⟩
                  refine wpAnyT_done (by kernel_rfl) (NoPanic.normal ?_)
                  go_wp2
                  go_roundw
                  case rel => exact ⟨m2 + 1, _, by go_num, by omega, by omega, HLS.out _, HGS.out _, (HSET.out _).drew⟩
                  case measure => simp [intOf]; omega
                · have hbt0 : wv.cell? ⟨bt, 0, none⟩ = some (.string (tblN k)) := cell_of_row _ _ _ _ _ _ hbt
                  have hbt2 : wv.cell? ⟨bt, 2, none⟩ = some (.int .i64 (1 + (m : Int))) := cell_of_row _ _ _ _ _ _ hbt
                  have hX : Below wr.heap.size wr (wv.alloc (.cells #[.string (tblN k), .slice Ap N cp, .int .i64 (1 + (m : Int))] 30)) := hbv.alloc hbv.size _
                  obtain ⟨S, hS1, hS2, hS3⟩ := HT.out.below hX
                  have hodX := (OwnG.mono hod (b := w.heap.size) (by have := hbw.size; omega)).alloc (.cells #[.string (tblN k), .slice Ap N cp, .int .i64 (1 + (m : Int))] 30)
                  have hpn : (Value.slice Ap N cp).ownBlock ≠ none := by
                    obtain ⟨g2, c2, e2, _⟩ := InC.setN HIN.out 0 (by omega)
                    rw [e2]
                    simp [Value.ownBlock]
                  have hpv : (Value.slice Ap N cp).ownBlock ≠ (Value.slice At k ct).ownBlock := by
                    rcases hq : (Value.slice At k ct).ownBlock with _ | x
                    · exact hpn
                    · intro e
                      obtain ⟨S0, hS0, _⟩ := HT.out
                      have h1 := (hS0.lt x hq).2
                      have h2 := (hod.lt x e).1
                      omega
                  have HS2 := Lib.hid hS2
                  have HS3 := Lib.hid hS3
                  have HPN := Lib.hid hpn
                  have HPV := Lib.hid hpv
                  clear hbf hbt hod hpt hN2 hGC2 hsv hS2 hS3 hpn hpv
                  by_cases hmN2 : m2 < N
                  · exfalso
                    have h1 := HDL.out
                    have h2 := HN.out
                    have h3 := HD1.out
                    by_cases h : j = 0
                    · rw [if_pos h] at h1
                      omega
                    · rw [if_neg h] at h1
                      omega
                  · have t1 : (N : Int) ≤ (m2 : Int) := by omega
                    clear hgo2 hmN2
                    go_wp2_with (
                      at_builtin
                      refine wpList_append_G _ rfl (.tmp 108) (.tmp 110) _ _ _ _ tblT rfl w.heap.size (.slice At k ct) S rfl hS1 _ 1 1 [⟨tblN k, Ap, N, cp, 1 + (m : Int)⟩] rfl (SegG.newAt _ _ _ _ _ _ rfl rfl rfl) (by rw [HS2.out, HTL.out]; omega) (by have := hbw.size; have := hbv.size; simp; omega) ?_
                      intro v3 w3 ho3 hg3 hat3
                      have hpush := TabsIn.pushed (t := ⟨tblN k, D2, 1 + (m : Int)⟩) ho3 HS2.out HS3.out hg3 hat3 ⟨rfl, rfl, HN2.out.symm, hodX, HPN.out, HPV.out⟩
                      have hbw3 : Below w.heap.size w w3 := below_grownG (hbw.trans (hX.mono hbw.size)) hS1 hg3 (Nat.le_refl _) (by have := hbw.size; have := hbv.size; simp; omega)
                      have HP := Lib.hid hpush
                      clear hpush ho3 hg3 hat3)
                    go_roundw
                    case rel =>
                      refine ⟨k + 1, T ++ [⟨tblN k, D2, 1 + (m : Int)⟩], by omega, by omega, by go_num, by rw [List.length_append, HTL.out]; rfl, GoodT.snoc HGT.out HTL.out ⟨rfl, ?_⟩, HP.out, hbw3⟩
                      have h1 := HN2.out
                      have h2 := HD1.out
                      exact ⟨by show 1 ≤ D2.length; omega, by show D2.length ≤ 8; omega, by show (1 : Int) ≤ 1 + (m : Int); omega, by show (1 + (m : Int)) ≤ (D2.length : Int); omega, GoodC.ok HGC2.out (by show D2.length ≤ 8; omega)⟩
                    case measure => simp [intOf]; omega
      · obtain rfl : k = 0 := by omega
        obtain rfl : n = 0 := by omega
        have kc0 := fun o => run_tn wr o 0 (by omega)
        simp only [Int.natCast_zero, Int.add_zero] at kc0
        clear kc
        go_wp2
        refine wp_loop_rounds 1 ?_
        rw [rounds_succ]
        go_wp2
        refine wp_loop_rounds 1 ?_
        rw [rounds_succ]
        obtain ⟨_, _, hod, _, hbv, _, _⟩ := InC.start wr (.slice none 0 0) 0 (tblN 0) #[.int .u8 116, .int .u8 48]
        have hX : Below wr.heap.size wr (((((wr.alloc (.cells #[.slice none 0 0, .int .u8 0] 64)).alloc (.cells #[.int .u8 116, .int .u8 48] 5)).alloc (.cells #[.string ⟨#[97]⟩, .int .u8 1, .bool false] 33)).alloc (.cells #[.string (tblN 0), .slice (some ⟨wr.heap.size + 1 + 1, 0, none⟩) 1 1, .int .i64 1] 30)).alloc (.cells #[.string (tblN 0), .slice (some ⟨wr.heap.size + 1 + 1, 0, none⟩) 1 1, .int .i64 1] 30)) := hbv.alloc hbv.size _
        obtain ⟨S, hS1, hS2, hS3⟩ := HT.out.below hX
        have hodX := (OwnG.mono hod (b := w.heap.size) (by have := hbw.size; omega)).alloc (.cells #[.string (tblN 0), .slice (some ⟨wr.heap.size + 1 + 1, 0, none⟩) 1 1, .int .i64 1] 30)
        have hpv : (Value.slice (some ⟨wr.heap.size + 1 + 1, 0, none⟩) 1 1).ownBlock ≠ (Value.slice At 0 ct).ownBlock := by
          intro e
          obtain ⟨S0, hS0, _⟩ := HT.out
          have h1 := (hS0.lt (wr.heap.size + 1 + 1) e.symm).2
          omega
        have HS2 := Lib.hid hS2
        have HS3 := Lib.hid hS3
        have HPV := Lib.hid hpv
        have HOX := Lib.hid hodX
        have hbz : wr.heap.size ≤ (((((wr.alloc (.cells #[.slice none 0 0, .int .u8 0] 64)).alloc (.cells #[.int .u8 116, .int .u8 48] 5)).alloc (.cells #[.string ⟨#[97]⟩, .int .u8 1, .bool false] 33)).alloc (.cells #[.string (tblN 0), .slice (some ⟨wr.heap.size + 1 + 1, 0, none⟩) 1 1, .int .i64 1] 30)).alloc (.cells #[.string (tblN 0), .slice (some ⟨wr.heap.size + 1 + 1, 0, none⟩) 1 1, .int .i64 1] 30)).heap.size := hX.size
        clear hS2 hS3 hpv hodX hod hbv
        go_wp2_with (
          at_builtin
          refine wpList_append_G _ rfl (.tmp 108) (.tmp 110) _ _ _ _ tblT rfl w.heap.size (.slice At 0 ct) S rfl hS1 _ 1 1 [⟨tblN 0, some ⟨wr.heap.size + 1 + 1, 0, none⟩, 1, 1, 1⟩] rfl (SegG.newAt _ _ _ _ _ _ (by simp) rfl rfl) (by rw [HS2.out, HTL.out]; omega) (Nat.le_trans hbw.size hbz) ?_
          intro v3 w3 ho3 hg3 hat3
          have hpush := TabsIn.pushed (t := ⟨tblN 0, [⟨⟨#[97]⟩, 1, false⟩], 1⟩) ho3 HS2.out HS3.out hg3 hat3 ⟨rfl, rfl, rfl, HOX.out, by simp [Value.ownBlock], HPV.out⟩
          have hbw3 : Below w.heap.size w w3 := below_grownG (hbw.trans (hX.mono hbw.size)) hS1 hg3 (Nat.le_refl _) (Nat.le_trans hbw.size hbz)
          have HP := Lib.hid hpush
          clear hpush ho3 hg3 hat3)
        go_roundw
        case rel =>
          refine ⟨1, T ++ [⟨tblN 0, [⟨⟨#[97]⟩, 1, false⟩], 1⟩], by omega, .inr (by omega), by go_num, by rw [List.length_append, HTL.out]; rfl, GoodT.snoc HGT.out HTL.out ⟨rfl, ?_⟩, HP.out, hbw3⟩
          exact ⟨by show 1 ≤ 1; omega, by show 1 ≤ 8; omega, by show (1 : Int) ≤ 1; omega, by show (1 : Int) ≤ ((1 : Nat) : Int); omega, GoodC.ok (GoodC.first _) (by show 1 ≤ 8; omega)⟩
        case measure => simp [intOf]
    · by_cases h4 : k < 4
      · have hkn2 : (n : Int) ≤ (k : Int) := by omega
        have hk0 : ((k : Int) == 0) = false := by rw [beq_eq_false_iff_ne]; omega
        have hk1 : 1 ≤ k := by omega
        clear hgo
        go_wp2
        go_ret
        exact ⟨_, T, rfl, HT.out, HGT.out, by rw [HTL.out]; exact hk1, by rw [HTL.out]; exact hk, hbw⟩
      · have hk4 : (4 : Int) ≤ (k : Int) := by omega
        have hk1 : 1 ≤ k := by omega
        clear hgo
        go_wp2
        go_ret
        exact ⟨_, T, rfl, HT.out, HGT.out, by rw [HTL.out]; exact hk1, by rw [HTL.out]; exact hk, hbw⟩
end Go.Proofs.Ytcmagjeplofagaa
