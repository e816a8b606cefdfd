/-
  The walk of the document's Decode.
-/
import Derived.Test.YtcmagjeplofagaaW6
import Derived.Test.YtcmagjeplofagaaPure2
namespace Go.Proofs.Ytcmagjeplofagaa
open Go.RowKit

/-- What the document's Decode answers. -/
def RDec (w : World) (l : List UInt8) (e : Ending) (w' : World) : Prop :=
  e = .returned (.tuple #[.agg #[.int .u8 (dec l).1.k, .int .i64 (dec l).1.n, .string (dec l).1.s], .int .i64 ((dec l).2.1 : Int), .int .i64 (dec l).2.2]) ∧ Below w.heap.size w w'

theorem RDec.of {w w' : World} {l : List UInt8} {v : V} {n : Nat} {x : Int} (h : dec l = (v, n, x)) (hb : Below w.heap.size w w') :
    RDec w l (.returned (.tuple #[.agg #[.int .u8 v.k, .int .i64 v.n, .string v.s], .int .i64 (n : Int), .int .i64 x])) w' := by
  unfold RDec
  rw [h]
  exact ⟨rfl, hb⟩

set_option maxHeartbeats 1000000 in
theorem rdecode_any (A : Option Addr) (n c : Nat) (l : List UInt8) (w : World) (ha : Seg w A n l) (hnc : n ≤ c) (hcm : c ≤ maxLen) :
    Calls Try.prog 52 #[.slice A n c] w (RDec w l) := by
  rcases l with _ | ⟨b, l⟩
  · have h0 : n = 0 := ha.1.symm
    subst h0
    go_enter Try.func52, Try.ntmps52
    go_wp2
    refine bodyPost_ret (v := .tuple #[.agg #[.int .u8 0, .int .i64 0, .string ⟨#[]⟩], .int .i64 0, .int .i64 3]) (by simp [results, Try.results52, go_sem]) rfl (RDec.of (v := V.none) (n := 0) (x := 3) rfl ?_)
    exact ((Below.refl _ _).alloc (Nat.le_refl _) _).alloc (by simp) _
  · have hl := ha.1
    rw [List.length_cons] at hl
    have h1 : 1 ≤ n := by omega
    have h0n : 0 < n := by omega
    obtain ⟨g, o, rfl, hc⟩ := ha.at_ (k := 0) (by omega)
    rw [Nat.add_zero] at hc
    simp only [List.getElem_cons_zero] at hc
    have hg : g < w.heap.size := World.block_lt_of_cell? w _ hc
    have hg1 : g < w.heap.size + 1 := by omega
    obtain ⟨A1, hA1, hseg⟩ : ∃ A1, (if c = 1 then some (⟨g, o, none⟩ : Addr) else some ⟨g, o + 1, none⟩) = A1 ∧ ∀ W, Seg W (some ⟨g, o, none⟩) n (b :: l) → Seg W A1 (n - 1) l := ⟨_, rfl, fun W h => h.from_ 1 c h1 hnc⟩
    have HL := Lib.hid hl
    have HSEG := Lib.hid hseg
    clear hl hseg
    unfold maxLen at hcm
    by_cases h0 : b = 0
    · subst h0
      go_enter Try.func52, Try.ntmps52
      go_wp2
      refine bodyPost_ret (v := .tuple #[.agg #[.int .u8 0, .int .i64 0, .string ⟨#[]⟩], .int .i64 1, .int .i64 0]) (by simp [results, Try.results52, go_sem]) rfl (RDec.of (v := V.none) (n := 1) (x := 0) (dec_cons (by unfold decKind; rw [if_pos rfl])) ?_)
      exact ((Below.refl _ _).alloc (Nat.le_refl _) _).alloc (by simp) _
    · have z0 : ((b.toNat : Int) == 0) = false := by
        rw [beq_eq_false_iff_ne]; intro h; exact h0 (UInt8.toNat_inj.1 (by simpa using h))
      by_cases hb1 : b = 1
      · subst hb1
        by_cases h9 : n < 9
        · go_enter Try.func52, Try.ntmps52
          go_wp2
          refine bodyPost_ret (v := .tuple #[.agg #[.int .u8 0, .int .i64 0, .string ⟨#[]⟩], .int .i64 0, .int .i64 3]) (by simp [results, Try.results52, go_sem]) rfl (RDec.of (v := V.none) (n := 0) (x := 3) (dec_consE ?_ (by omega)) ?_)
          · have := HL.out
            show decNum l = _
            unfold decNum
            rw [if_pos (by omega)]
          · exact ((Below.refl _ _).alloc (Nat.le_refl _) _).alloc (by simp) _
        · go_enter Try.func52, Try.ntmps52
          go_wp2_with fail
          refine (read_any A1 8 (c - 1) (l.take 8) _ ((((HSEG.out _ ha).upto 8 (by omega)).alloc _).alloc _) (by omega)).mono ?_
          rintro e w1 ⟨rfl, rfl⟩
          go_wp2
          rw [i64Z_eq _ (rdN_lt' _ 8 (by rw [List.length_take]; omega))]
          refine bodyPost_ret (v := .tuple #[.agg #[.int .u8 1, .int .i64 (i64Z (rdN (l.take 8))), .string ⟨#[]⟩], .int .i64 9, .int .i64 0]) (by simp [results, Try.results52, go_sem]) rfl (RDec.of (v := ⟨1, i64Z (rdN (l.take 8)), ⟨#[]⟩⟩) (n := 9) (x := 0) (dec_cons ?_) ?_)
          · have := HL.out
            show decNum l = _
            unfold decNum
            rw [if_neg (by omega)]
          · exact ((Below.refl _ _).alloc (Nat.le_refl _) _).alloc (by simp) _
      · have z1 : ((b.toNat : Int) == 1) = false := by
          rw [beq_eq_false_iff_ne]; intro h; exact hb1 (UInt8.toNat_inj.1 (by show b.toNat = 1; omega))
        by_cases hb2 : b = 2
        · subst hb2
          clear z0 z1 h0 hb1
          have hk : ∀ p, decKind 2 p = decText p := fun p => rfl
          have HK := Lib.hid hk
          clear hk
          by_cases h3 : n < 3
          · go_enter Try.func52, Try.ntmps52
            go_wp2
            refine bodyPost_ret (v := .tuple #[.agg #[.int .u8 0, .int .i64 0, .string ⟨#[]⟩], .int .i64 0, .int .i64 3]) (by simp [results, Try.results52, go_sem]) rfl (RDec.of (v := V.none) (n := 0) (x := 3) (dec_consE ?_ (by omega)) ?_)
            · have := HL.out
              rw [HK.out]
              unfold decText
              rw [if_pos (by omega)]
            · exact ((Below.refl _ _).alloc (Nat.le_refl _) _).alloc (by simp) _
          · obtain ⟨m, hm⟩ : ∃ m, rdN (l.take 2) = m := ⟨_, rfl⟩
            have hlt : m < 65536 := by rw [← hm]; exact rdN_lt' (l.take 2) 2 (by rw [List.length_take]; omega)
            have HM := Lib.hid hm
            clear hm
            by_cases h200 : 200 < m
            · go_enter Try.func52, Try.ntmps52
              go_wp2_with fail
              refine (read_any A1 2 (c - 1) (l.take 2) _ ((((HSEG.out _ ha).upto 2 (by omega)).alloc _).alloc _) (by omega)).mono ?_
              rintro e w1 ⟨rfl, rfl⟩
              rw [HM.out]
              go_wp2
              refine bodyPost_ret (v := .tuple #[.agg #[.int .u8 0, .int .i64 0, .string ⟨#[]⟩], .int .i64 0, .int .i64 2]) (by simp [results, Try.results52, go_sem]) rfl (RDec.of (v := V.none) (n := 0) (x := 2) (dec_consE ?_ (by omega)) ?_)
              · have := HL.out
                rw [HK.out]
                unfold decText
                rw [if_neg (by omega), HM.out, if_pos h200]
              · exact ((Below.refl _ _).alloc (Nat.le_refl _) _).alloc (by simp) _
            · by_cases hs : n < 3 + m
              · have hs' : (n : Int) < 3 + (m : Int) := by omega
                go_enter Try.func52, Try.ntmps52
                go_wp2_with fail
                refine (read_any A1 2 (c - 1) (l.take 2) _ ((((HSEG.out _ ha).upto 2 (by omega)).alloc _).alloc _) (by omega)).mono ?_
                rintro e w1 ⟨rfl, rfl⟩
                rw [HM.out]
                go_wp2
                refine bodyPost_ret (v := .tuple #[.agg #[.int .u8 0, .int .i64 0, .string ⟨#[]⟩], .int .i64 0, .int .i64 3]) (by simp [results, Try.results52, go_sem]) rfl (RDec.of (v := V.none) (n := 0) (x := 3) (dec_consE ?_ (by omega)) ?_)
                · have := HL.out
                  rw [HK.out]
                  unfold decText
                  rw [if_neg (by omega), HM.out, if_neg h200, if_pos (by omega)]
                · exact ((Below.refl _ _).alloc (Nat.le_refl _) _).alloc (by simp) _
              · have hs' : (3 : Int) + (m : Int) ≤ (n : Int) := by omega
                obtain ⟨A3, hA3, hseg3⟩ : ∃ A3, (if c = 3 then some (⟨g, o, none⟩ : Addr) else some ⟨g, o + 3, none⟩) = A3 ∧ Seg w A3 m ((l.drop 2).take m) := ⟨_, rfl, ((ha.from_ 3 c (by omega) hnc).upto m (by omega))⟩
                have kc := fun (o1 o2 : Obj) => run_string_seg (P := Try.prog) ((w.alloc o1).alloc o2) 31 9 5 bt Try.underlying9 A3 m (c - 3) _ ((hseg3.alloc o1).alloc o2)
                go_enter Try.func52, Try.ntmps52
                go_wp2_with fail
                refine (read_any A1 2 (c - 1) (l.take 2) _ ((((HSEG.out _ ha).upto 2 (by omega)).alloc _).alloc _) (by omega)).mono ?_
                rintro e w1 ⟨rfl, rfl⟩
                rw [HM.out]
                go_wp2
                refine bodyPost_ret (v := .tuple #[.agg #[.int .u8 2, .int .i64 0, .string ⟨((l.drop 2).take m).toArray⟩], .int .i64 ((3 : Int) + (m : Int)), .int .i64 0]) (by simp [results, Try.results52, go_sem]) rfl ?_
                have e3 : ((3 : Int) + (m : Int)) = ((2 + m + 1 : Nat) : Int) := by omega
                rw [e3]
                refine RDec.of (v := ⟨2, 0, ⟨((l.drop 2).take m).toArray⟩⟩) (n := 2 + m + 1) (x := 0) (dec_cons ?_) ?_
                · have := HL.out
                  rw [HK.out]
                  unfold decText
                  rw [if_neg (by omega), HM.out, if_neg h200, if_neg (by omega)]
                · exact ((Below.refl _ _).alloc (Nat.le_refl _) _).alloc (by simp) _
        · have z2 : ((b.toNat : Int) == 2) = false := by
            rw [beq_eq_false_iff_ne]; intro h; exact hb2 (UInt8.toNat_inj.1 (by show b.toNat = 2; omega))
          go_enter Try.func52, Try.ntmps52
          go_wp2
          refine bodyPost_ret (v := .tuple #[.agg #[.int .u8 0, .int .i64 0, .string ⟨#[]⟩], .int .i64 0, .int .i64 2]) (by simp [results, Try.results52, go_sem]) rfl (RDec.of (v := V.none) (n := 0) (x := 2) (dec_consE ?_ (by omega)) ?_)
          · unfold decKind
            rw [if_neg h0, if_neg hb1, if_neg hb2]
          · exact ((Below.refl _ _).alloc (Nat.le_refl _) _).alloc (by simp) _

theorem decode_ok (A : Option Addr) (n c : Nat) (l : List UInt8) (v : V) (m : Nat) (w : World) (ha : Seg w A n l) (hnc : n ≤ c) (hcm : c ≤ maxLen) (hn : n ≤ 1099511627776) (hD : dec l = (v, m, 0)) :
    Calls Try.prog 51 #[.slice A n c] w fun e w' => ∃ r, e = .returned (.tuple #[.agg #[.int .u8 v.k, .int .i64 v.n, .string v.s], r, .int .i64 0]) ∧ Own w' w.heap.size 5 r (l.drop m) ∧ Below w.heap.size w w' :=
  (decode_any A n c l w ha hnc hcm hn).mono fun e w' h => by
    obtain ⟨r, h1, h2, h3⟩ := h
    rw [hD] at h1 h2
    exact ⟨r, h1, h2, h3⟩
theorem decode_err (A : Option Addr) (n c : Nat) (l : List UInt8) (v : V) (m : Nat) (x : Int) (w : World) (ha : Seg w A n l) (hnc : n ≤ c) (hcm : c ≤ maxLen) (hn : n ≤ 1099511627776) (hD : dec l = (v, m, x)) (hx : x ≠ 0) :
    Calls Try.prog 51 #[.slice A n c] w fun e w' => ∃ r, e = .returned (.tuple #[.agg #[.int .u8 v.k, .int .i64 v.n, .string v.s], r, .int .i64 x]) ∧ Own w' w.heap.size 5 r [] ∧ Below w.heap.size w w' :=
  (decode_any A n c l w ha hnc hcm hn).mono fun e w' h => by
    obtain ⟨r, h1, h2, h3⟩ := h
    rw [hD] at h1 h2
    simp only [if_neg hx] at h2
    exact ⟨r, h1, h2, h3⟩
theorem rdecode_of (A : Option Addr) (n c : Nat) (l : List UInt8) (v : V) (m : Nat) (x : Int) (w : World) (ha : Seg w A n l) (hnc : n ≤ c) (hcm : c ≤ maxLen) (hD : dec l = (v, m, x)) :
    Calls Try.prog 52 #[.slice A n c] w fun e w' => e = .returned (.tuple #[.agg #[.int .u8 v.k, .int .i64 v.n, .string v.s], .int .i64 (m : Int), .int .i64 x]) ∧ Below w.heap.size w w' :=
  (rdecode_any A n c l w ha hnc hcm).mono fun e w' h => by
    obtain ⟨h1, h3⟩ := h
    rw [hD] at h1
    exact ⟨h1, h3⟩
theorem bytes_b (A B : Option Addr) (n m c d : Nat) (l r : List UInt8) (w : World) (ha : Seg w A n l) (hb : Seg w B m r) (hn : n ≤ maxLen) :
    Calls Try.prog 31 #[.slice A n c, .slice B m d] w fun e w' => e = .returned (.bool (l == r)) ∧ Below w.heap.size w w' :=
  (bytes_any A B n m c d l r w ha hb hn).mono fun e w' h => by
    obtain ⟨h1, k, rfl⟩ := h
    exact ⟨h1, below_drewN (Below.refl _ _) k⟩
theorem bytes_yes (A B : Option Addr) (n m c d : Nat) (l : List UInt8) (w : World) (ha : Seg w A n l) (hb : Seg w B m l) (hn : n ≤ maxLen) :
    Calls Try.prog 31 #[.slice A n c, .slice B m d] w fun e w' => e = .returned (.bool true) ∧ Below w.heap.size w w' :=
  (bytes_b A B n m c d l l w ha hb hn).mono fun e w' h => ⟨by rw [h.1, beq_self_eq_true], h.2⟩
theorem right_ok (a : V) (w : World) (h : a.Ok) :
    Calls Try.prog 57 #[.agg #[.int .u8 a.k, .int .i64 a.n, .string a.s]] w fun e w' => e = .returned (.bool true) ∧ Below w.heap.size w w' :=
  (right_any a w).mono fun e w' h' => ⟨by rw [h'.1, V.okB_of h], h'.2⟩

end Go.Proofs.Ytcmagjeplofagaa
