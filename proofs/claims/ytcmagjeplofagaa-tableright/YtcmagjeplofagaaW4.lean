/-
  The walks of Decode: the program's.
-/
import Derived.Test.YtcmagjeplofagaaW3
import Derived.RegionTactic
import Derived.ChangeAlike
namespace Go.Proofs.Ytcmagjeplofagaa
open Go.RowKit

/-- What a call answers that reads a value: the value, what stands behind it, the error. -/
def Dec3 (w : World) (r : V × Nat × Int) (A : Option Addr) (n : Nat) (l : List UInt8) (e : Ending) (w' : World) : Prop :=
  ∃ A' n' c', e = .returned (.tuple #[.agg #[.int .u8 r.1.k, .int .i64 r.1.n, .string r.1.s], .slice A' n' c', .int .i64 r.2.2]) ∧ (∀ W, Seg W A n l → Seg W A' n' (if r.2.2 = 0 then l.drop r.2.1 else [])) ∧ n' ≤ c' ∧ c' ≤ maxLen ∧ Below w.heap.size w w'

/-- Nothing, and an error. -/
theorem Dec3.err {w w' : World} {A : Option Addr} {n : Nat} {l : List UInt8} (x : Int) (hx : x ≠ 0) (hb : Below w.heap.size w w') : Dec3 w (V.none, 0, x) A n l (.returned (.tuple #[.agg #[.int .u8 0, .int .i64 0, .string ⟨#[]⟩], .slice none 0 0, .int .i64 x])) w' :=
  ⟨none, 0, 0, rfl, fun W _ => by rw [if_neg hx]; exact Seg.nil _ _, Nat.le_refl _, Nat.zero_le _, hb⟩

set_option maxHeartbeats 400000 in
theorem decodeNumber_any (A : Option Addr) (n c : Nat) (l : List UInt8) (w : World) (ha : Seg w A n l) (hnc : n ≤ c) (hcm : c ≤ maxLen) :
    Calls Try.prog 69 #[.slice A n c] w (Dec3 w (decNum l) A n l) := by
  have hl := ha.1
  by_cases hn : n < 8
  · have er : decNum l = (V.none, 0, 3) := by unfold decNum; rw [if_pos (by omega)]
    rw [er]
    clear er hl ha
    go_enter Try.func69, Try.ntmps69
    go_wp2
    refine bodyPost_ret (v := .tuple #[.agg #[.int .u8 0, .int .i64 0, .string ⟨#[]⟩], .slice none 0 0, .int .i64 3]) (by simp [results, Try.results69, go_sem]) rfl (Dec3.err 3 (by omega) ?_)
    exact (Below.refl _ _).alloc (Nat.le_refl _) _
  · have er : decNum l = (⟨1, i64Z (rdN (l.take 8)), ⟨#[]⟩⟩, 8, 0) := by unfold decNum; rw [if_neg (by omega)]
    rw [er]
    clear er hl
    have hn' : 8 ≤ n := by omega
    obtain ⟨g, o, rfl, hc⟩ := ha.at_ (k := 0) (by omega)
    obtain ⟨A', hA, hseg⟩ : ∃ A', (if c = 8 then some (⟨g, o, none⟩ : Addr) else some ⟨g, o + 8, none⟩) = A' ∧ ∀ W, Seg W (some ⟨g, o, none⟩) n l → Seg W A' (n - 8) (l.drop 8) := ⟨_, rfl, fun W h => h.from_ 8 c hn' hnc⟩
    clear hc hn
    unfold maxLen at hcm
    go_enter Try.func69, Try.ntmps69
    go_wp2_with fail
    refine (readHigh_any _ 8 c (l.take 8) _ ((ha.upto 8 hn').alloc _) (by omega)).mono ?_
    rintro e w1 ⟨rfl, rfl⟩
    go_wp2
    go_region
    go_wp2
    rw [i64Z_eq _ (rdN_lt' _ 8 (by rw [List.length_take]; omega))]
    refine bodyPost_ret (v := .tuple #[.agg #[.int .u8 1, .int .i64 (i64Z (rdN (l.take 8))), .string ⟨#[]⟩], .slice A' (n - 8) (c - 8), .int .i64 0]) (by simp [results, Try.results69, go_sem]) rfl ⟨_, _, _, rfl, ?_, by omega, by unfold maxLen; omega, ?_⟩
    · exact hseg
    · exact ((Below.refl _ _).alloc (Nat.le_refl _) _).drew

set_option maxHeartbeats 400000 in
theorem decodeText_any (A : Option Addr) (n c : Nat) (l : List UInt8) (w : World) (ha : Seg w A n l) (hnc : n ≤ c) (hcm : c ≤ maxLen) :
    Calls Try.prog 70 #[.slice A n c] w (Dec3 w (decText l) A n l) := by
  have hl := ha.1
  by_cases hn : n < 2
  · have er : decText l = (V.none, 0, 3) := by unfold decText; rw [if_pos (by omega)]
    rw [er]
    clear er hl ha
    go_enter Try.func70, Try.ntmps70
    go_wp2
    refine bodyPost_ret (v := .tuple #[.agg #[.int .u8 0, .int .i64 0, .string ⟨#[]⟩], .slice none 0 0, .int .i64 3]) (by simp [results, Try.results70, go_sem]) rfl (Dec3.err 3 (by omega) ?_)
    exact (Below.refl _ _).alloc (Nat.le_refl _) _
  · have hn' : 2 ≤ n := by omega
    obtain ⟨g, o, rfl, hc⟩ := ha.at_ (k := 0) (by omega)
    obtain ⟨A', hA, hseg⟩ : ∃ A', (if c = 2 then some (⟨g, o, none⟩ : Addr) else some ⟨g, o + 2, none⟩) = A' ∧ ∀ W, Seg W (some ⟨g, o, none⟩) n l → Seg W A' (n - 2) (l.drop 2) := ⟨_, rfl, fun W h => h.from_ 2 c hn' hnc⟩
    obtain ⟨m, hm⟩ : ∃ m, rdN (l.take 2) = m := ⟨_, rfl⟩
    have hlt : m < 65536 := by rw [← hm]; exact rdN_lt' (l.take 2) 2 (by rw [List.length_take]; omega)
    have HM := Lib.hid hm
    clear hc hn hm
    unfold maxLen at hcm
    by_cases h200 : 200 < m
    · have er : decText l = (V.none, 0, 2) := by unfold decText; rw [if_neg (by omega), HM.out, if_pos h200]
      rw [er]
      clear er hl
      go_enter Try.func70, Try.ntmps70
      go_wp2_with fail
      refine (readHigh_any _ 2 c (l.take 2) _ ((ha.upto 2 hn').alloc _) (by omega)).mono ?_
      rintro e w1 ⟨rfl, rfl⟩
      rw [HM.out]
      go_wp2
      refine bodyPost_ret (v := .tuple #[.agg #[.int .u8 0, .int .i64 0, .string ⟨#[]⟩], .slice none 0 0, .int .i64 2]) (by simp [results, Try.results70, go_sem]) rfl (Dec3.err 2 (by omega) ?_)
      exact (Below.refl _ _).alloc (Nat.le_refl _) _
    · by_cases hs : n < 2 + m
      · have er : decText l = (V.none, 0, 3) := by unfold decText; rw [if_neg (by omega), HM.out, if_neg h200, if_pos (by omega)]
        rw [er]
        clear er hl
        go_enter Try.func70, Try.ntmps70
        go_wp2_with fail
        refine (readHigh_any _ 2 c (l.take 2) _ ((ha.upto 2 hn').alloc _) (by omega)).mono ?_
        rintro e w1 ⟨rfl, rfl⟩
        rw [HM.out]
        have hsub : ((n - 2 : Nat) : Int) < (m : Int) := by omega
        go_wp2
        refine bodyPost_ret (v := .tuple #[.agg #[.int .u8 0, .int .i64 0, .string ⟨#[]⟩], .slice none 0 0, .int .i64 3]) (by simp [results, Try.results70, go_sem]) rfl (Dec3.err 3 (by omega) ?_)
        exact (Below.refl _ _).alloc (Nat.le_refl _) _
      · have er : decText l = (⟨2, 0, ⟨((l.drop 2).take m).toArray⟩⟩, 2 + m, 0) := by unfold decText; rw [if_neg (by omega), HM.out, if_neg h200, if_neg (by omega)]
        rw [er]
        clear er hl
        have hge : (m : Int) ≤ ((n - 2 : Nat) : Int) := by omega
        obtain ⟨A2, hA2, hseg2⟩ : ∃ A2, (if c - 2 = m then A' else Option.map (fun x => x.add m) A') = A2 ∧ ∀ W, Seg W (some ⟨g, o, none⟩) n l → Seg W A2 (n - 2 - m) (l.drop (2 + m)) := ⟨_, rfl, fun W h => by
          have := (hseg W h).fromA m (c - 2) (by omega) (by omega)
          rw [List.drop_drop] at this
          exact this⟩
        have kc := fun (o : Obj) => run_string_seg (P := Try.prog) (w.alloc o).drew 31 9 5 bt Try.underlying9 A' m (c - 2) _ ((((hseg w ha).upto m (by omega)).alloc o).drew)
        go_enter Try.func70, Try.ntmps70
        go_wp2_with fail
        refine (readHigh_any _ 2 c (l.take 2) _ ((ha.upto 2 hn').alloc _) (by omega)).mono ?_
        rintro e w1 ⟨rfl, rfl⟩
        rw [HM.out]
        go_wp2
        go_region
        go_wp2
        refine bodyPost_ret (v := .tuple #[.agg #[.int .u8 2, .int .i64 0, .string ⟨((l.drop 2).take m).toArray⟩], .slice A2 (n - 2 - m) (c - 2 - m), .int .i64 0]) (by simp [results, Try.results70, go_sem]) rfl ⟨_, _, _, rfl, ?_, by omega, by unfold maxLen; omega, ?_⟩
        · exact hseg2
        · exact ((Below.refl _ _).alloc (Nat.le_refl _) _).drew

set_option maxHeartbeats 400000 in
theorem decodeKind_any (b : UInt8) (A : Option Addr) (n c : Nat) (l : List UInt8) (w : World) (ha : Seg w A n l) (hnc : n ≤ c) (hcm : c ≤ maxLen) :
    Calls Try.prog 65 #[.int .u8 (b.toNat : Int), .slice A n c] w (Dec3 w (decKind b l) A n l) := by
  by_cases h0 : b = 0
  · have er : decKind b l = (V.none, 0, 0) := by unfold decKind; rw [if_pos h0]
    rw [er]
    clear er
    subst h0
    go_enter Try.func65, Try.ntmps65
    go_wp2
    refine bodyPost_ret (v := .tuple #[.agg #[.int .u8 0, .int .i64 0, .string ⟨#[]⟩], .slice A n c, .int .i64 0]) (by simp [results, Try.results65, go_sem]) rfl ⟨_, _, _, rfl, ?_, hnc, hcm, ?_⟩
    · exact fun W h => h
    · exact (Below.refl _ _).alloc (Nat.le_refl _) _
  · have z0 : ((b.toNat : Int) == 0) = false := by
      rw [beq_eq_false_iff_ne]; intro h; exact h0 (UInt8.toNat_inj.1 (by simpa using h))
    by_cases h1 : b = 1
    · have er : decKind b l = decNum l := by unfold decKind; rw [if_neg h0, if_pos h1]
      rw [er]
      clear er h0 z0
      subst h1
      go_enter Try.func65, Try.ntmps65
      go_wp2_with fail
      refine (decodeNumber_any A n c l _ (ha.alloc _) hnc hcm).mono ?_
      rintro e w1 ⟨A', n', c', rfl, hs, hnc', hcm', hb⟩
      obtain ⟨hc0, hc1, hc2, hfr, hsz⟩ := box3 hb
      generalize decNum l = R at *
      have HS := Lib.hid hs
      clear hs
      go_wp2
      refine bodyPost_ret (v := .tuple #[.agg #[.int .u8 R.1.k, .int .i64 R.1.n, .string R.1.s], .slice A' n' c', .int .i64 R.2.2]) (by simp [results, Try.results65, go_sem, hc0, hc1, hc2]) rfl ⟨_, _, _, rfl, HS.out, hnc', hcm', ?_⟩
      exact ((((((Below.refl _ _).alloc (Nat.le_refl _) _).trans (hb.mono (by simp))).setCell (Nat.le_refl _) _)).setCell (Nat.le_refl _) _).setCell (Nat.le_refl _) _
    · have z1 : ((b.toNat : Int) == 1) = false := by
        rw [beq_eq_false_iff_ne]; intro h; exact h1 (UInt8.toNat_inj.1 (by show b.toNat = 1; omega))
      by_cases h2 : b = 2
      · have er : decKind b l = decText l := by unfold decKind; rw [if_neg h0, if_neg h1, if_pos h2]
        rw [er]
        clear er h0 z0 h1 z1
        subst h2
        go_enter Try.func65, Try.ntmps65
        go_wp2_with fail
        refine (decodeText_any A n c l _ (ha.alloc _) hnc hcm).mono ?_
        rintro e w1 ⟨A', n', c', rfl, hs, hnc', hcm', hb⟩
        obtain ⟨hc0, hc1, hc2, hfr, hsz⟩ := box3 hb
        generalize decText l = R at *
        have HS := Lib.hid hs
        clear hs
        go_wp2
        refine bodyPost_ret (v := .tuple #[.agg #[.int .u8 R.1.k, .int .i64 R.1.n, .string R.1.s], .slice A' n' c', .int .i64 R.2.2]) (by simp [results, Try.results65, go_sem, hc0, hc1, hc2]) rfl ⟨_, _, _, rfl, HS.out, hnc', hcm', ?_⟩
        exact ((((((Below.refl _ _).alloc (Nat.le_refl _) _).trans (hb.mono (by simp))).setCell (Nat.le_refl _) _)).setCell (Nat.le_refl _) _).setCell (Nat.le_refl _) _
      · have z2 : ((b.toNat : Int) == 2) = false := by
          rw [beq_eq_false_iff_ne]; intro h; exact h2 (UInt8.toNat_inj.1 (by show b.toNat = 2; omega))
        have er : decKind b l = (V.none, 0, 2) := by unfold decKind; rw [if_neg h0, if_neg h1, if_neg h2]
        rw [er]
        clear er
        go_enter Try.func65, Try.ntmps65
        go_wp2
        refine bodyPost_ret (v := .tuple #[.agg #[.int .u8 0, .int .i64 0, .string ⟨#[]⟩], .slice none 0 0, .int .i64 2]) (by simp [results, Try.results65, go_sem]) rfl (Dec3.err 2 (by omega) ?_)
        exact (Below.refl _ _).alloc (Nat.le_refl _) _

end Go.Proofs.Ytcmagjeplofagaa
