/-
  Writes in memory; the reader's writes, told by the pure reader.
-/
import Derived.Test.YtipfhcljdginoaaDoorRA3
import Derived.Test.YtipfhcljdginoaaDoorMemT
namespace Go.Proofs.YtipfhcljdginoaaDoor
open Go.RowKit

/-- A write as its struct has it. -/
structure WrS where
  s : ByteArray
  A : Option Addr
  m : Nat
  c : Nat
  g : Bool
deriving Inhabited
def wrLay : Lay WrS where
  z := 3
  cells s := [.string s.s, .slice s.A s.m s.c, .bool s.g]
  len _ := rfl
  one c u hu := by simp at hu; rcases hu with rfl | rfl | rfl <;> rfl
  pos := by omega
theorem wrT : ElT Tryd.prog wrLay 24 45 (.agg #[.string ⟨#[]⟩, .slice none 0 0, .bool false]) 48 := ⟨Tryd.underlying24, by kernel_rfl, rfl, by omega⟩
def WrAt (w : World) (s : WrS) (x : Wr6) : Prop := x.key = s.s ∧ Seg w s.A s.m x.row ∧ s.m ≤ s.c ∧ s.c ≤ maxLen ∧ x.gone = s.g
abbrev SegW := SegN wrLay WrAt
theorem WrAt.below {w w' : World} (hb : Below w.heap.size w w') (s : WrS) (x : Wr6) (h : WrAt w s x) : WrAt w' s x := ⟨h.1, h.2.1.below hb, h.2.2⟩
theorem SegW.below {w w' : World} {A : Option Addr} {n : Nat} {D : List Wr6} (h : SegW w A n D) (hb : Below w.heap.size w w') : SegW w' A n D := SegN.below (WrAt.below hb) h hb
/-- The slice value v is a row of the call's own and holds the writes D; their rows lie in blocks of the call's own, too. -/
def OwnW (w : World) (base : Nat) (v : Value) (D : List Wr6) : Prop :=
  ∃ S : List WrS, OwnG wrLay w base 45 v S ∧ S.length = D.length ∧ ∀ (i : Nat) (s : WrS) (x : Wr6), S[i]? = some s → D[i]? = some x → WrAt w s x ∧ (0 < s.m → ∀ a, s.A = some a → v.ownBlock ≠ some a.block ∧ base ≤ a.block)
section
variable {w w' : World} {base : Nat} {v v' : Value} {D : List Wr6} {K : Nat → Prop}
theorem OwnW.nil (w : World) (base : Nat) : OwnW w base (.slice none 0 0) [] := ⟨[], OwnG.nil _ _ _, rfl, fun i s l h => by simp at h⟩
theorem OwnW.only (h : OwnW w base v D) (ho : Only w w' K) (hK : ∀ k, base ≤ k → k < w.heap.size → ¬ K k) : OwnW w' base v D := by
  obtain ⟨S, h1, h2, h3⟩ := h
  refine ⟨S, h1.only ho fun k hk => hK k (h1.lt k hk).1 (h1.lt k hk).2, h2, fun i s x hs hx => ?_⟩
  obtain ⟨⟨q1, q2, q3⟩, q4⟩ := h3 i s x hs hx
  exact ⟨⟨q1, q2.only ho (fun hn a ha => hK a.block (q4 hn a ha).2 (q2.lt hn a ha)), q3⟩, q4⟩
theorem OwnW.below (h : OwnW w base v D) (hb : Below w.heap.size w w') : OwnW w' base v D := h.only (Only.of_below (S := fun _ => False) hb) fun _ _ _ => id
theorem OwnW.mono (h : OwnW w base v D) {b : Nat} (hb : b ≤ base) : OwnW w b v D := by
  obtain ⟨S, h1, h2, h3⟩ := h
  exact ⟨S, h1.mono hb, h2, fun i s x hs hx => ⟨(h3 i s x hs hx).1, fun hn a ha => ⟨((h3 i s x hs hx).2 hn a ha).1, Nat.le_trans hb ((h3 i s x hs hx).2 hn a ha).2⟩⟩⟩
theorem OwnW.seg (h : OwnW w base v D) : ∃ A c, v = .slice A D.length c ∧ SegW w A D.length D ∧ D.length ≤ c ∧ c ≤ maxLen := by
  obtain ⟨S, h1, h2, h3⟩ := h
  obtain ⟨A, c, e, hs, hl, hc⟩ := h1.forms
  rw [h2] at e hs hl
  exact ⟨A, c, e, ⟨S, hs, h2, fun i s x q1 q2 => (h3 i s x q1 q2).1⟩, hl, hc⟩
theorem OwnW.append {S : List WrS} {s : WrS} {q : Wr6} {o : Obj}
    (hSl : S.length = D.length) (hSe : ∀ (i : Nat) (s : WrS) (x : Wr6), S[i]? = some s → D[i]? = some x → WrAt w s x ∧ (0 < s.m → ∀ a, s.A = some a → v.ownBlock ≠ some a.block ∧ base ≤ a.block))
    (hq : WrAt w s q ∧ (0 < s.m → ∀ a, s.A = some a → v.ownBlock ≠ some a.block ∧ base ≤ a.block))
    (ho : OwnG wrLay w' base 45 v' (S ++ [s])) (hg : (w.alloc o).grownBy w' v.ownBlock) (hv : v'.ownBlock = v.ownBlock ∨ v'.ownBlock = some (w.alloc o).heap.size) :
    OwnW w' base v' (D ++ [q]) := by
  have hz : (w.alloc o).heap.size = w.heap.size + 1 := by simp
  have step : ∀ (t : WrS) (x : Wr6), (WrAt w t x ∧ (0 < t.m → ∀ a, t.A = some a → v.ownBlock ≠ some a.block ∧ base ≤ a.block)) → (WrAt w' t x ∧ (0 < t.m → ∀ a, t.A = some a → v'.ownBlock ≠ some a.block ∧ base ≤ a.block)) := by
    intro t x ⟨⟨h1, h2, h3⟩, h4⟩
    have hon : Only (w.alloc o) w' (fun k => v.ownBlock = some k) := Only.of_grown hg fun k hk => hk
    refine ⟨⟨h1, (h2.alloc o).only hon fun hn a ha => (h4 hn a ha).1, h3⟩, fun hn a ha => ⟨fun e => ?_, (h4 hn a ha).2⟩⟩
    rcases hv with hv | hv
    · exact (h4 hn a ha).1 (by rw [← hv]; exact e)
    · rw [hv] at e
      injection e with e
      have := h2.lt hn a ha
      omega
  refine ⟨S ++ [s], ho, by simp [hSl], fun i t x ht hx => ?_⟩
  by_cases hi : i < S.length
  · rw [List.getElem?_append_left hi] at ht
    rw [List.getElem?_append_left (by omega)] at hx
    exact step t x (hSe i t x ht hx)
  · rw [List.getElem?_append_right (by omega)] at ht
    rw [List.getElem?_append_right (by omega)] at hx
    have hi0 : i - S.length = 0 := by
      have := (List.getElem?_eq_some_iff.1 ht).1
      simp at this
      omega
    rw [hi0] at ht
    rw [← hSl, hi0] at hx
    simp at ht hx
    subst ht hx
    exact step _ _ hq
end

theorem Re.keep {w w' : World} {g : Nat} {A : Option Addr} {n c k : Nat} {l : List UInt8} {K : Nat → Prop} (h : Re w g A n c l k) (ho : Only w w' K) (hg : ¬ K g) (hA : 0 < n → ∀ a, A = some a → ¬ K a.block) : Re w' g A n c l k :=
  ⟨⟨ho.cell h.rd.p hg, ho.cell h.rd.at_ hg, (ho.froz h.rd.p hg ⟨g, 1, none⟩ rfl).trans h.rd.fr⟩, h.seg.only ho hA, h.ap, h.hn, h.nc, h.cm, h.hk⟩

/-- What was read already, ahead of what is read yet. -/
def Rr.pre (D : List Wr6) : Rr (List Wr6) → Rr (List Wr6)
  | .bad p x => .bad p x
  | .ok xs k => .ok (D ++ xs) k
theorem rws_pre {l : List UInt8} {k : Nat} {last : ByteArray} {n : Nat} {D : List Wr6} {x : Wr6} {k1 : Nat} (h : rwr l k last = .ok x k1) : Rr.pre D (rws l k last (n + 1)) = Rr.pre (D ++ [x]) (rws l k1 x.key n) := by
  simp only [rws, h]
  rcases rws l k1 x.key n with ⟨p, y⟩ | ⟨xs, k2⟩
  · rfl
  · simp [Rr.pre]
theorem rws_bad {l : List UInt8} {k : Nat} {last : ByteArray} {n : Nat} {D : List Wr6} {p y : Nat} (h : rwr l k last = .bad p y) : Rr.pre D (rws l k last (n + 1)) = .bad p y := by
  simp only [rws, h, Rr.pre]

/-- What 'writes' answers. -/
def WrsR (w : World) (g : Nat) (A : Option Addr) (n c : Nat) (l : List UInt8) (e : Ending) (w' : World) : Rr (List Wr6) → Prop
  | .bad p x => e = .returned (.tuple #[.slice none 0 0, metV (p : Nat) (x : Nat)]) ∧ Only w w' (fun b => b = g)
  | .ok D k => ∃ v, e = .returned (.tuple #[v, .nilIface]) ∧ OwnW w' w.heap.size v D ∧ Re w' g A n c l k ∧ Only w w' (fun b => b = g)

set_option maxRecDepth 8000 in
set_option maxHeartbeats 8000000 in
theorem wrsR_any {w : World} {g : Nat} {A : Option Addr} {n c k : Nat} {l : List UInt8} (h : Re w g A n c l k) :
    Calls Tryd.prog 32 #[.pointer (some ⟨g, 0, none⟩)] w fun e w' => WrsR w g A n c l e w' (rwrites l k) := by
  have hnum := numR_any h 2 1 64 (by omega)
  have hok := fun r k' (q : rnum l k 2 1 64 = .ok r k') => rnum_ok q (by rw [h.len]; exact h.hk)
  have hgl := h.lt
  have hAl := fun hn => h.seg.lt hn
  unfold rwrites
  generalize rnum l k 2 1 64 = R at *
  clear h
  rcases R with ⟨p, x⟩ | ⟨N, k1⟩
  · simp only [NumR, metV, WrsR] at hnum ⊢
    go_enter Tryd.func32, Tryd.ntmps32
    go_wp2_with fail
    refine hnum.mono ?_
    rintro e w1 ⟨rfl, ho1⟩
    go_wp2
    go_ret2
    exact ⟨rfl, ho1⟩
  · obtain ⟨-, -, hm1, hm2, -⟩ := hok N k1 rfl
    clear hok
    dsimp only
    simp only [NumR] at hnum
    obtain ⟨Z, hZ⟩ : ∃ Z, rws l k1 ⟨#[]⟩ N = Z := ⟨_, rfl⟩
    rw [hZ]
    have hZ0 : Rr.pre [] (rws l k1 ⟨#[]⟩ (N - 0)) = Z := by
      rw [Nat.sub_zero, hZ]
      rcases Z with ⟨p, y⟩ | ⟨xs, k2⟩ <;> rfl
    have HZ0 := Lib.hid hZ0
    clear hZ hZ0
    go_enter Tryd.func32, Tryd.ntmps32
    go_wp2_with fail
    refine hnum.mono ?_
    rintro e w1 ⟨rfl, h1, ho1⟩
    clear hnum
    go_wp2_with fail
    go_loopw [6, 7, 8, 9, 19] (fun v s _ _ i w' => ∃ (j kk : Nat) (last : ByteArray) (D : List Wr6), j ≤ N ∧ i = .int .u64 j ∧ s = .string last ∧ Hid (Rr.pre D (rws l kk last (N - j)) = Z) ∧ D.length ≤ j ∧ OwnW w' w.heap.size v D ∧ Re w' g A n c l kk ∧ Only w w' (fun b => b = g)) (fun _ _ _ _ i _ => N - (intOf i).toNat)
    case atStart => exact ⟨0, k1, ⟨#[]⟩, [], by omega, rfl, rfl, HZ0, by simp, OwnW.nil _ _, h1, ho1⟩
    case round =>
      clear h1 ho1 HZ0
      obtain ⟨v, rfl⟩ : ∃ v, v = u6 := ⟨_, rfl⟩
      obtain ⟨j, kk, last, D, hj, rfl, rfl, HZ, hD, ⟨S, hS1, hS2, hS3⟩, hre, hot⟩ := hrel
      by_cases hlt : j < N
      · have hwr := wrR_any hre last
        obtain ⟨m, hm⟩ : ∃ m, N - j = m + 1 := ⟨N - j - 1, by omega⟩
        have hm' : N - (j + 1) = m := by omega
        rw [hm] at HZ
        rcases hX : rwr l kk last with ⟨p, x⟩ | ⟨x, k2⟩
        · have hz := HZ.out
          rw [rws_bad hX] at hz
          subst hz
          rw [hX] at hwr
          simp only [WrR, metV] at hwr
          clear hX HZ hS1 hS2 hS3 hre hm hm'
          go_wp2_with fail
          refine hwr.mono ?_
          rintro e w2 ⟨rfl, ho2⟩
          have hoa := ho2.alloc (.cells #[.string ⟨#[]⟩, .slice none 0 0, .bool false] 45)
          clear hwr ho2
          go_wp2
          go_ret2
          simp only [WrsR, metV]
          exact ⟨rfl, hot.trans hoa fun _ _ h => h⟩
        · have hz := HZ.out
          rw [rws_pre hX, ← hm'] at hz
          rw [hX] at hwr
          simp only [WrR] at hwr
          have HZ2 := Lib.hid hz
          clear hX HZ hz hm hm'
          go_wp2_with fail
          refine hwr.mono ?_
          rintro e w2 ⟨A', q, c', rfl, hs2, hq1, hq2, hq3, hr2, ho2⟩
          have hz2 := ho2.size
          have hzw := hot.size
          have hS1' := hS1.only ho2 fun b hb e => by have := (hS1.lt b hb).1; omega
          have hS3' : ∀ (i : Nat) (s : WrS) (y : Wr6), S[i]? = some s → D[i]? = some y → WrAt w2 s y ∧ (0 < s.m → ∀ a, s.A = some a → v.ownBlock ≠ some a.block ∧ w.heap.size ≤ a.block) := fun i s y h1 h2 => by
            obtain ⟨⟨t1, t2, t3⟩, t4⟩ := hS3 i s y h1 h2
            exact ⟨⟨t1, t2.only ho2 (fun hn a ha e => by have := (t4 hn a ha).2; omega), t3⟩, t4⟩
          have hvl := hS1.lt
          have hqv : 0 < q → ∀ a, A' = some a → v.ownBlock ≠ some a.block ∧ w.heap.size ≤ a.block := fun hn a ha => ⟨fun e => by have := (hvl _ e).2; have := hq3 hn a ha; omega, by have := hq3 hn a ha; omega⟩
          obtain ⟨A0, c0, rfl, _, hlc, hcm⟩ := hS1.forms
          obtain ⟨M, hM⟩ : ∃ M, S.length = M := ⟨_, rfl⟩
          have HM := Lib.hid hM
          have HS2 := Lib.hid hS2
          have hM40 : M ≤ 64 := by omega
          rw [hM] at hS1 hS1' hS3' hvl hlc hqv ⊢
          clear hM hS2 hS3
          have hot2 := hot.trans ho2 fun _ _ h => h
          have hb3 : Below w2.heap.size w2 (w2.alloc (.cells #[.string x.key, .slice A' q c', .bool x.gone] 45)) := (Below.refl _ _).alloc (Nat.le_refl _) _
          have hr3 := hr2.below hb3
          have hot3 := hot2.alloc (.cells #[.string x.key, .slice A' q c', .bool x.gone] 45)
          have hS13 := hS1'.below hb3
          have hS33 : ∀ (i : Nat) (s : WrS) (y : Wr6), S[i]? = some s → D[i]? = some y → WrAt (w2.alloc (.cells #[.string x.key, .slice A' q c', .bool x.gone] 45)) s y ∧ (0 < s.m → ∀ a, s.A = some a → (Value.slice A0 M c0).ownBlock ≠ some a.block ∧ w.heap.size ≤ a.block) := fun i s y h1 h2 => ⟨(hS3' i s y h1 h2).1.below hb3, (hS3' i s y h1 h2).2⟩
          have hx3 : WrAt (w2.alloc (.cells #[.string x.key, .slice A' q c', .bool x.gone] 45)) ⟨x.key, A', q, c', x.gone⟩ x := ⟨rfl, hs2.below hb3, hq1, hq2, rfl⟩
          clear hwr hre hs2 hq3 ho2 hS1 hS1' hS3' hr2 hot hot2
          have y0 : (w2.alloc (.cells #[.string x.key, .slice A' q c', .bool x.gone] 45)).cell? ⟨w2.heap.size, 0, none⟩ = some (.string x.key) := by simp
          have hall : ∀ v4 w4, OwnG wrLay w4 w.heap.size 45 v4 (S ++ [⟨x.key, A', q, c', x.gone⟩]) → ((w2.alloc (.cells #[.string x.key, .slice A' q c', .bool x.gone] 45)).alloc (.cells #[.string x.key, .slice A' q c', .bool x.gone] 45)).grownBy w4 (Value.slice A0 M c0).ownBlock → (v4.ownBlock = (Value.slice A0 M c0).ownBlock ∨ v4.ownBlock = some ((w2.alloc (.cells #[.string x.key, .slice A' q c', .bool x.gone] 45)).alloc (.cells #[.string x.key, .slice A' q c', .bool x.gone] 45)).heap.size) →
              w4.cell? ⟨w2.heap.size, 0, none⟩ = some (.string x.key) ∧ OwnW w4 w.heap.size v4 (D ++ [x]) ∧ Re w4 g A n c l k2 ∧ Only w w4 (fun b => b = g) := by
            intro v4 w4 hown4 hg4 hat4
            have hon4 : Only (w2.alloc (.cells #[.string x.key, .slice A' q c', .bool x.gone] 45)) w4 (fun b => (Value.slice A0 M c0).ownBlock = some b) := ((Only.refl (w2.alloc (.cells #[.string x.key, .slice A' q c', .bool x.gone] 45)) (fun b => (Value.slice A0 M c0).ownBlock = some b)).alloc (.cells #[.string x.key, .slice A' q c', .bool x.gone] 45)).trans (Only.of_grown (S := fun b => (Value.slice A0 M c0).ownBlock = some b) hg4 fun b hb => hb) fun _ _ h => h
            have y04 := hon4.cell y0 (fun e => by have := (hvl w2.heap.size e).2; omega)
            have hO4 := OwnW.append (o := .cells #[.string x.key, .slice A' q c', .bool x.gone] 45) HS2.out hS33 ⟨hx3, hqv⟩ hown4 hg4 hat4
            have hR4 := hr3.keep hon4 (fun e => by have := (hvl g e).1; omega) (fun hn a ha e => by have := (hvl a.block e).1; have := hAl hn a ha; omega)
            have hT4 := hot3.trans hon4 fun i hi e => by have := (hvl i e).1; omega
            exact ⟨y04, hO4, hR4, hT4⟩
          go_wp2_with (at_builtin
                       refine wpList_append_G _ rfl (.tmp 30) (.tmp 32) _ _ _ _ wrT rfl w.heap.size (.slice A0 M c0) S rfl (hS13.alloc _) (some ⟨w2.heap.size + 1, 0, none⟩) 1 1 ([⟨x.key, A', q, c', x.gone⟩] : List WrS) rfl (SegG.newAt _ ([⟨x.key, A', q, c', x.gone⟩] : List WrS) _ _ _ 1 (by simp) rfl rfl) (by rw [HM.out]; omega) (by simp; omega) ?_
                       intro v4 w4 hown4 hg4 hat4
                       obtain ⟨y04, hO4, hR4, hT4⟩ := hall v4 w4 hown4 hg4 hat4
                       clear hown4 hg4 hat4 hall y0 hS13 hS33 hx3 hqv hr3 hot3)
          go_roundw
          case rel =>
            exact ⟨j + 1, k2, x.key, D ++ [x], hlt, by go_num, rfl, HZ2, by simp; omega, hO4, hR4, hT4⟩
          case measure => simp [intOf]; omega
      · obtain rfl : N = j := by omega
        have hz := HZ.out
        rw [Nat.sub_self] at hz
        simp only [rws, Rr.pre, List.append_nil] at hz
        subst hz
        have hown : OwnW wr w.heap.size v D := ⟨S, hS1, hS2, hS3⟩
        clear hS1 hS2 hS3 HZ
        go_wp2
        go_ret2
        simp only [WrsR]
        exact ⟨v, rfl, hown, hre, hot⟩

end Go.Proofs.YtipfhcljdginoaaDoor
