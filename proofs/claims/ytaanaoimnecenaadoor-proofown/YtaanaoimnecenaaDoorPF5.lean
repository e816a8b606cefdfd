/-
  The program's Decode of proofs.
-/
import Derived.Test.YtaanaoimnecenaaDoorPF4
namespace Go.Proofs.YtaanaoimnecenaaDoor
open Go.RowKit

set_option maxHeartbeats 8000000 in
theorem pdecode_any (A : Option Addr) (n c : Nat) (l : List UInt8) (w : World) (ha : Seg w A n l) (hnc : n ≤ c) (hcm : c ≤ maxLen) (hn : n ≤ 1000000) (hA : 0 < n → ∀ a, A = some a → a.block < w.heap.size) :
    Calls Tryd.prog 46 #[.slice A n c] w fun en w' => ∃ v, en = .returned (.tuple #[v, .int .i64 ((pdec l).2 : Int)]) ∧ PfOwn w' w.heap.size v (pdec l).1 ∧ Below w.heap.size w w' := by
  obtain ⟨Z, hZ⟩ : ∃ Z, pdec l = Z := ⟨_, rfl⟩
  unfold pdec at hZ
  rw [show pdec l = Z from hZ]
  obtain rfl := ha.len
  have hp := fun g W (h : Rp W g l 0) => pproof_any g l 0 W h (by omega)
  generalize ppf (l, 0) = X at *
  obtain ⟨p, l1, e1⟩ := X
  have he := fun g W (h : Rp W g l1 e1) => pend_any g l1 e1 W h
  generalize pend (l1, e1) = Y at *
  obtain ⟨l2, e2⟩ := Y
  dsimp only at *
  have HP := Lib.hid hp
  have HE := Lib.hid he
  have HZ := Lib.hid hZ
  clear hp he hZ
  have hb2 := Bx.new w (.slice none 0 0) (.int .u8 0) (.string ⟨#[]⟩) (.slice none 0 0) 65
  have ho1 := Only.alloc_ w (.cells #[.slice none 0 0, .int .u8 0, .string ⟨#[]⟩, .slice none 0 0] 65) (fun _ => False)
  have hz1 : (w.alloc (.cells #[.slice none 0 0, .int .u8 0, .string ⟨#[]⟩, .slice none 0 0] 65)).heap.size = w.heap.size + 1 := by simp
  go_enter Tryd.func46, Tryd.ntmps46
  go_wp2_with fail
  have hb2 := hb2.only (Only.alloc_ _ (.cells #[.slice A l.length c, .int .i64 0] 119) (fun _ => False)) id
  have ho1 := ho1.alloc (.cells #[.slice A l.length c, .int .i64 0] 119)
  have hr : Rp ((w.alloc (.cells #[.slice none 0 0, .int .u8 0, .string ⟨#[]⟩, .slice none 0 0] 65)).alloc (.cells #[.slice A l.length c, .int .i64 0] 119)) (w.heap.size + 1) l 0 :=
    ⟨⟨A, c, by simp, (ha.alloc _).alloc _, hnc, hcm, fun hp a e => by have := hA hp a e; omega⟩, by simp, fun j => by simp⟩
  clear hz1
  have hza := hr.lt
  generalize (w.alloc (.cells #[.slice none 0 0, .int .u8 0, .string ⟨#[]⟩, .slice none 0 0] 65)).alloc (.cells #[.slice A l.length c, .int .i64 0] 119) = wa at *
  refine (HP.out _ _ hr).mono ?_
  rintro _ w1 ⟨v, rfl, ⟨v1, v2, rfl, hv1, hv2⟩, hr1, hp1⟩
  have hb2 := hb2.only hp1 (by omega)
  have ho1 := ho1.trans hp1 (fun i hi e => by omega)
  obtain ⟨A1, c1, rfl, _, _, _⟩ := hv1.forms
  obtain ⟨A2, c2, rfl, _, _, _⟩ := hv2.forms
  have hz1 := hp1.size
  have hlt1 : ∀ k, (Value.slice A1 p.side.length c1).ownBlock = some k → w.heap.size + 1 < k ∧ k < w1.heap.size := fun k hk => by have := hv1.lt k hk; omega
  have hlt2 : ∀ k, (Value.slice A2 p.row.length c2).ownBlock = some k → w.heap.size + 1 < k ∧ k < w1.heap.size := fun k hk => by have := hv2.lt k hk; omega
  have hv1 := hv1.mono (b := w.heap.size) (by omega)
  have hv2 := hv2.mono (b := w.heap.size) (by omega)
  clear hr hp1 HP
  go_wp2_with fail
  have hal := Only.alloc_ w1 (.cells #[.slice A1 p.side.length c1, .int .u8 (p.k : Int), .string p.key, .slice A2 p.row.length c2] 65) (fun _ => False)
  have hb3 := Bx.new w1 (.slice A1 p.side.length c1) (.int .u8 (p.k : Int)) (.string p.key) (.slice A2 p.row.length c2) 65
  have hb2 := hb2.only hal id
  have hv1 := hv1.only hal (fun _ _ => id)
  have hv2 := hv2.only hal (fun _ _ => id)
  have ho1 := ho1.trans hal (fun _ _ h => h)
  have hr1 := hr1.only hal (fun _ _ => id)
  clear hal
  generalize w1.alloc (.cells #[.slice A1 p.side.length c1, .int .u8 (p.k : Int), .string p.key, .slice A2 p.row.length c2] 65) = wb at *
  generalize w1.heap.size = b3 at *
  refine (HE.out _ _ hr1).mono ?_
  rintro _ w2 ⟨rfl, hr2, hp2⟩
  have hb3 := hb3.only hp2 (by omega)
  have hb2 := hb2.only hp2 (by omega)
  have hv1 := hv1.only hp2 (fun k hk e => by have := hlt1 k hk; omega)
  have hv2 := hv2.only hp2 (fun k hk e => by have := hlt2 k hk; omega)
  have ho2 := ho1.trans hp2 (fun i hi e => by omega)
  have hbw : Below w.heap.size w w2 := ho2.below (Below.refl _ _) (fun _ h => h.elim) (Nat.le_refl _)
  obtain ⟨x0, x1, x2, x3, xf⟩ := hb3
  obtain ⟨y0, y1, y2, y3, yf⟩ := hb2
  have yf0 := yf 0
  have yf1 := yf 1
  have yf2 := yf 2
  have yf3 := yf 3
  have hb2 : Bx w2 w.heap.size _ _ _ _ := ⟨y0, y1, y2, y3, yf⟩
  have h1 := hr2.at1
  clear xf yf hp2 ho1 hr1 HE ho2
  by_cases hx : e2 = 0
  · subst hx
    have hZ := HZ.out
    rw [if_pos rfl] at hZ
    subst hZ
    obtain ⟨hf, hfo⟩ := hb2.set4 (.slice A1 p.side.length c1) (.int .u8 (p.k : Int)) (.string p.key) (.slice A2 p.row.length c2)
    go_wp2
    refine bodyPost_ret (v := .tuple #[.agg #[.slice A1 p.side.length c1, .int .u8 (p.k : Int), .string p.key, .slice A2 p.row.length c2], .int .i64 0]) (by simp [results, Tryd.results46, go_sem, hf.c0, hf.c1, hf.c2, hf.c3]) rfl ⟨_, rfl, ⟨_, _, rfl, ?_, ?_⟩, ?_⟩
    · exact hv1.only hfo (fun k hk e => by have := hlt1 k hk; omega)
    · exact hv2.only hfo (fun k hk e => by have := hlt2 k hk; omega)
    · exact hfo.below hbw (fun k e => by omega) hbw.size
  · have hne : ((e2 : Int) != 0) = true := by simp; omega
    have hZ := HZ.out
    rw [if_neg hx] at hZ
    subst hZ
    obtain ⟨hf, hfo⟩ := hb2.set4 (.slice none 0 0) (.int .u8 0) (.string ⟨#[]⟩) (.slice none 0 0)
    go_wp2
    go_region
    go_wp2
    refine bodyPost_ret (v := .tuple #[.agg #[.slice none 0 0, .int .u8 0, .string ⟨#[]⟩, .slice none 0 0], .int .i64 e2]) (by simp [results, Tryd.results46, go_sem, hf.c0, hf.c1, hf.c2, hf.c3]) rfl ⟨_, rfl, ⟨_, _, rfl, OwnG.nil _ _ _, Own.nil _ _ _⟩, ?_⟩
    exact (hfo.below hbw (fun k e => by omega) hbw.size).drew

end Go.Proofs.YtaanaoimnecenaaDoor
