/-
  The walks of what reads keys back.
-/
import Derived.Test.YtcmagjeplofagaaPureB
import Derived.Deep.DeepCutAuto
namespace Go.Proofs.Ytcmagjeplofagaa
open Go.RowKit

/-- What a call answers that reads one value of a key. -/
def Bk3 (w : World) (res : Option (V × List UInt8)) (A : Option Addr) (n : Nat) (l : List UInt8) (e : Ending) (w' : World) : Prop :=
  ∃ (x : V) (A' : Option Addr) (n' c' : Nat), e = .returned (.tuple #[.agg #[.int .u8 x.k, .int .i64 x.n, .string x.s], .slice A' n' c', .bool res.isSome]) ∧
    (∀ v r, res = some (v, r) → x = v ∧ (∀ W, Seg W A n l → Seg W A' n' r) ∧ n' ≤ c' ∧ c' ≤ maxLen) ∧ Below w.heap.size w w'

theorem Bk3.no {w w' : World} {A : Option Addr} {n : Nat} {l : List UInt8} (x : V) (A' : Option Addr) (n' c' : Nat) (hb : Below w.heap.size w w') :
    Bk3 w none A n l (.returned (.tuple #[.agg #[.int .u8 x.k, .int .i64 x.n, .string x.s], .slice A' n' c', .bool false])) w' :=
  ⟨x, A', n', c', rfl, (fun v r h => by cases h), hb⟩
theorem Bk3.yes {w w' : World} {A : Option Addr} {n : Nat} {l : List UInt8} (x : V) (r : List UInt8) (A' : Option Addr) (n' c' : Nat) (hs : ∀ W, Seg W A n l → Seg W A' n' r) (h1 : n' ≤ c') (h2 : c' ≤ maxLen) (hb : Below w.heap.size w w') :
    Bk3 w (some (x, r)) A n l (.returned (.tuple #[.agg #[.int .u8 x.k, .int .i64 x.n, .string x.s], .slice A' n' c', .bool true])) w' :=
  ⟨x, A', n', c', rfl, fun v r' h => by
    injection h with h
    injection h with e1 e2
    subst e1 e2
    exact ⟨rfl, hs, h1, h2⟩, hb⟩

theorem xor_twice : ∀ a, a < 256 → (a ^^^ 128) ^^^ 128 = a := by decide +kernel
/-- The bytes of a number in a key, their highest bit turned, are those of the number. -/
theorem turned (b : UInt8) (p : List UInt8) (hp : p.length = 7) : dec (1 :: (b ^^^ 128) :: p) = (⟨1, unNum (b :: p), ⟨#[]⟩⟩, 9, 0) := by
  obtain ⟨e, h1, h2⟩ := key_unNum (b :: p) (by simp [hp])
  generalize unNum (b :: p) = n at *
  rw [keyNum_eq] at e
  injection e with e1 e2
  have hv : V.Ok ⟨1, n, ⟨#[]⟩⟩ := .inr (.inl ⟨rfl, rfl, h1, h2⟩)
  have hd := dec_enc ⟨1, n, ⟨#[]⟩⟩ [] hv
  rw [List.append_nil, enc_int] at hd
  have hb : b ^^^ 128 = UInt8.ofNat (u64N n / 2 ^ (8 * 7)) := by
    rw [← e1]
    apply UInt8.toNat_inj.1
    rw [UInt8.toNat_xor, UInt8.toNat_xor]
    exact xor_twice _ (byte_lt _)
  have e8 : high (u64N n) 8 = (b ^^^ 128) :: p := by rw [hb, ← e2]; rfl
  rw [e8] at hd
  rw [hd]
  simp [hp]

/-- A row of the call's own whose second byte is written over. -/
theorem own_turn {w1 : World} {B : Nat} {v1 : Value} {a b : UInt8} {p : List UInt8} (ho : Own w1 B 5 v1 (a :: b :: p)) :
    ∃ g cap, v1 = .slice (some ⟨g, 0, none⟩) (p.length + 2) cap ∧ B ≤ g ∧ g < w1.heap.size ∧ w1.cell? ⟨g, 1, none⟩ = some (.int .u8 (b.toNat : Int)) ∧ w1.frozen? ⟨g, 1, none⟩ = false ∧ p.length + 2 ≤ cap ∧ cap ≤ maxLen ∧
      ∀ c : UInt8, Seg (w1.setCell ⟨g, 1, none⟩ (.int .u8 (c.toNat : Int))) (some ⟨g, 0, none⟩) (p.length + 2) (a :: c :: p) := by
  rcases hh : ho.2 with ⟨_, hz⟩ | ⟨g, cap, cur, e, hb, hg, h3, h4, h5, h6⟩
  · simp at hz
  · subst e
    have hown : w1.ownsRow B 5 1 (.slice (some ⟨g, 0, none⟩) (a :: b :: p).length cap) (a :: b :: p).length (cellsB (a :: b :: p)) := ho
    have hc1 : w1.cell? ⟨g, 1, none⟩ = some (.int .u8 (b.toNat : Int)) := hown.cellAt 1 (by simp)
    refine ⟨g, cap, rfl, hb, World.block_lt_of_cell? w1 _ hc1, hc1, hown.frozenAt 1, h3, h4, fun c => ?_⟩
    have hst := (hown.stored 1 (.int .u8 (c.toNat : Int))).1
    have h9 : Own (w1.setCell ⟨g, 1, none⟩ (.int .u8 (c.toNat : Int))) B 5 (.slice (some ⟨g, 0, none⟩) (a :: b :: p).length cap) (a :: c :: p) := hst
    obtain ⟨A9, c9, e9, hs9, _, _⟩ := h9.forms
    injection e9 with e9a
    rw [e9a]
    exact hs9

set_option maxHeartbeats 1000000 in
theorem backNumber_any (A : Option Addr) (n c : Nat) (l : List UInt8) (w : World) (ha : Seg w A n l) (hnc : n ≤ c) (hcm : c ≤ maxLen) (hn : n ≤ 1000000) :
    Calls Try.prog 67 #[.slice A n c] w (Bk3 w (back1 2 l) A n l) := by
  have hl := ha.1
  by_cases h8 : n < 8
  · have er : back1 2 l = none := by
      show (if l.length < 8 then none else _) = none
      rw [if_pos (by omega)]
    rw [er]
    clear er hl ha
    go_enter Try.func67, Try.ntmps67
    go_wp2
    refine bodyPost_ret (v := .tuple #[.agg #[.int .u8 0, .int .i64 0, .string ⟨#[]⟩], .slice none 0 0, .bool false]) (by simp [results, Try.results67, go_sem]) rfl (Bk3.no V.none none 0 0 ?_)
    exact (Below.refl _ _).alloc (Nat.le_refl _) _
  · have er : back1 2 l = some (⟨1, unNum (l.take 8), ⟨#[]⟩⟩, l.drop 8) := by
      show (if l.length < 8 then none else _) = _
      rw [if_neg (by omega)]
    rw [er]
    clear er
    have hn' : 8 ≤ n := by omega
    obtain ⟨b, p, hbp, hp7⟩ : ∃ b p, l.take 8 = b :: p ∧ p.length = 7 := by
      have hlen : (l.take 8).length = 8 := by rw [List.length_take]; omega
      rcases h : l.take 8 with _ | ⟨b, p⟩
      · rw [h] at hlen; cases hlen
      · rw [h] at hlen; exact ⟨b, p, rfl, by simpa using hlen⟩
    have hD := turned b p hp7
    rw [← hbp] at hD
    have hu8 := ha.upto 8 hn'
    rw [hbp] at hu8 hD ⊢
    generalize unNum (b :: p) = z at *
    have HD := Lib.hid hD
    clear hD hl
    obtain ⟨g0, o0, rfl, _⟩ := ha.at_ (k := 0) (by omega)
    obtain ⟨A2, hA2, hseg⟩ : ∃ A2, (if c = 8 then some (⟨g0, o0, none⟩ : Addr) else some ⟨g0, o0 + 8, none⟩) = A2 ∧ ∀ W, Seg W (some ⟨g0, o0, none⟩) n l → Seg W A2 (n - 8) (l.drop 8) := ⟨_, rfl, fun W h => h.from_ 8 c hn' hnc⟩
    have HSEG := Lib.hid hseg
    clear hseg
    have hcm' := hcm
    unfold maxLen at hcm
    have hn8 : (8 : Int) ≤ (n : Int) := by omega
    have h18 : (1 : Int) < 9 := by omega
    go_enter Try.func67, Try.ntmps67
    go_wp2_with (first
      | (at_builtin
         refine wpList_append_seg _ rfl (.tmp 13) (.tmp 15) _ _ bt rfl (w.heap.size + 1) _ [1] rfl (Own.one _ _ _ _ _ 1 (by simp) (by simp) rfl) (some ⟨g0, o0, none⟩) 8 c (b :: p) rfl ((hu8.alloc _).alloc _) (by simp) (by simp) ?_
         intro v1 w1 ho1 hg1 _
         have hbw1 : Below (w.heap.size + 1) (w.alloc (.cells #[.int .u8 0, .int .i64 0, .string ⟨#[]⟩] 41)) w1 := below_grown ((Below.refl _ _).alloc (by simp) _) (Own.one _ (w.heap.size + 1) _ _ _ 1 (by simp) (by simp) rfl) hg1 (Nat.le_refl _) (by simp)
         obtain ⟨g, cap, hr1, hbg, hgl, hc1, hf1, hcap1, hcap2, hset⟩ := own_turn ho1
         rw [hp7] at hr1 hset hcap1
         subst hr1
         have hx := xor128 b
         have hs9 := hset (b ^^^ 128)
         have hbx : (((b ^^^ 128).toNat : Nat) : Int) = ((b.toNat ^^^ 128 : Nat) : Int) := by rw [UInt8.toNat_xor]; rfl
         rw [hbx] at hs9 hx
         have hbw2 : Below (w.heap.size + 1) (w.alloc (.cells #[.int .u8 0, .int .i64 0, .string ⟨#[]⟩] 41)) (w1.setCell ⟨g, 1, none⟩ (.int .u8 ((b.toNat ^^^ 128 : Nat) : Int))) := hbw1.setCell hbg _
         clear ho1 hg1 hbx hset))
    go_wp2_with fail
    refine (decode_ok _ 9 cap (1 :: (b ^^^ 128) :: p) ⟨1, z, ⟨#[]⟩⟩ 9 _ hs9 hcap1 hcap2 (by omega) HD.out).mono ?_
    rintro e w2 ⟨r2, rfl, ho2, hb2⟩
    have hbw3 : Below (w.heap.size + 1) (w.alloc (.cells #[.int .u8 0, .int .i64 0, .string ⟨#[]⟩] 41)) w2 := Below.next' hbw2 hb2 (by have := hbw2.size; rw [World.size_alloc] at this; exact this)
    obtain ⟨A3, c3, rfl, _, _, _⟩ := ho2.forms
    obtain ⟨q0, q1, q2, hfr, hsz⟩ := box3B hbw3 (by omega)
    have hne : ¬ w2.heap.size = w.heap.size := by omega
    clear hb2 ho2 hs9 hbw2 hbw1
    go_wp2
    go_region
    go_wp2
    refine bodyPost_ret (v := .tuple #[.agg #[.int .u8 1, .int .i64 z, .string ⟨#[]⟩], .slice A2 (n - 8) (c - 8), .bool true]) (by simp [results, Try.results67, go_sem, q0, q1, q2, hsz]) rfl (Bk3.yes ⟨1, z, ⟨#[]⟩⟩ _ A2 (n - 8) (c - 8) HSEG.out (by omega) (by unfold maxLen; omega) ?_)
    have hb4 := ((((((Below.refl w.heap.size w).alloc (Nat.le_refl _) _).trans (hbw3.mono (by omega))).setCell (p := ⟨w.heap.size, 0, none⟩) (Nat.le_refl _) (.int .u8 1))).setCell (p := ⟨w.heap.size, 1, none⟩) (Nat.le_refl _) (.int .i64 z)).setCell (p := ⟨w.heap.size, 2, none⟩) (Nat.le_refl _) (.string ⟨#[]⟩)
    exact (hb4.alloc hb4.size _).drew

theorem back1_3 (l : List UInt8) : back1 3 l = match unText l with | some (s, r) => if s.length ≤ 200 then some (⟨2, 0, ⟨s.toArray⟩⟩, r) else none | none => none := rfl

theorem unText_short (l : List UInt8) (h : l.length ≤ 1) : unText l = none := by
  match l, h with
  | [], _ => rfl
  | [_], _ => rfl

set_option maxHeartbeats 2000000 in
theorem backText_any (A : Option Addr) (n c : Nat) (l : List UInt8) (w : World) (ha : Seg w A n l) (hnc : n ≤ c) (hcm : c ≤ maxLen) (hn : n ≤ 1000000) :
    Calls Try.prog 68 #[.slice A n c] w (Bk3 w (back1 3 l) A n l) := by
  have hl := ha.1
  go_enter Try.func68, Try.ntmps68
  go_wp2
  go_loopw [5, 6] (fun p i w' => ∃ (k : Nat) (d : List UInt8), k ≤ n ∧ i = .int .i64 k ∧ unText l = (unText (l.drop k)).map (fun x => (d ++ x.1, x.2)) ∧ d.length ≤ k ∧ Own w' (w.heap.size + 1) 5 p d ∧ Below (w.heap.size + 1) (w.alloc (.cells #[.int .u8 0, .int .i64 0, .string ⟨#[]⟩] 41)) w') (fun _ i _ => n - (intOf i).toNat)
  case atStart => exact ⟨0, [], Nat.zero_le _, rfl, by simp, Nat.le_refl _, Own.nil _ _ _, Below.refl _ _⟩
  case round =>
    obtain ⟨k, d, hk, rfl, hu, hdk, hod, hbw⟩ := hrel
    have HU := Lib.hid hu
    clear hu
    obtain ⟨A', c', rfl, hs', hlc', hcm'⟩ := hod.forms
    obtain ⟨q0, q1, q2, hfr, hsz⟩ := box3B hbw (by omega)
    by_cases hk1 : k + 1 < n
    · have hk1' : (k : Int) + 1 < (n : Int) := by omega
      obtain ⟨g, o, rfl, hc0⟩ := ha.at_ (k := k) (by omega)
      have hc1 := ha.cell rfl (k := k + 1) hk1
      have hdrop : l.drop k = l[k]'(by omega) :: l[k + 1]'(by omega) :: l.drop (k + 2) := by
        rw [List.drop_eq_getElem_cons (by omega), List.drop_eq_getElem_cons (by omega)]
      have hdrop1 : l.drop (k + 1) = l[k + 1]'(by omega) :: l.drop (k + 2) := by
        rw [List.drop_eq_getElem_cons (by omega)]
      have HD0 := Lib.hid hdrop
      have HD1 := Lib.hid hdrop1
      clear hdrop hdrop1
      have hg : g < w.heap.size := World.block_lt_of_cell? w _ hc0
      have e0 : wr.cell? ⟨g, o + k, none⟩ = some (.int .u8 ((l[k]'(by omega)).toNat : Int)) := by
        rw [hbw.cell (p := ⟨g, o + k, none⟩) (by show g < w.heap.size + 1; omega)]
        exact cell_alloc _ hc0
      have e1 : wr.cell? ⟨g, o + (k + 1), none⟩ = some (.int .u8 ((l[k + 1]'(by omega)).toNat : Int)) := by
        rw [hbw.cell (p := ⟨g, o + (k + 1), none⟩) (by show g < w.heap.size + 1; omega)]
        exact cell_alloc _ hc1
      generalize l[k]'(by omega) = b0 at *
      generalize l[k + 1]'(by omega) = b1 at *
      clear hc0 hc1
      by_cases hb0 : b0 = 0
      · have z0 : ((b0.toNat : Int) != 0) = false := by rw [hb0]; rfl
        by_cases hb1 : b1 = 255
        · have z1 : ((b1.toNat : Int) == 255) = true := by rw [hb1]; rfl
          have HB0 := Lib.hid hb0
          have HB1 := Lib.hid hb1
          clear hb0 hb1
          go_wp2_with (first
            | (at_builtin
               refine wpList_append_seg _ rfl (.tmp 35) (.tmp 36) _ _ bt rfl (w.heap.size + 1) _ d rfl (hod.alloc _) _ 1 1 [0] rfl (Seg.one _ _ _ 0 rfl) (by omega) (by simp; omega) ?_
               intro v2 w2 ho2 hg2 _
               obtain ⟨d2, hd2⟩ : ∃ d2, d ++ [0] = d2 := ⟨_, rfl⟩
               have hl2 : d2.length ≤ d.length + 1 := by rw [← hd2]; simp
               have hbw2 := below_grown (hbw.alloc (by omega) _) (hod.alloc _) hg2 (Nat.le_refl _) (by simp; omega)
               rw [hd2] at ho2
               have HD2 := Lib.hid hd2
               clear hd2 hg2
               obtain ⟨A2, c2, rfl, hs2, hlc2, hcm2⟩ := ho2.forms))
          go_roundw
          case rel =>
            refine ⟨k + 2, d2, by omega, by go_num, ?_, by omega, ho2, hbw2⟩
            rw [HU.out, HD0.out, HB0.out, HB1.out, unText, if_pos rfl, if_pos rfl, ← HD2.out, Option.map_map]
            congr 1
            funext x
            simp
          case measure => simp [intOf]; omega
        · have z1 : ((b1.toNat : Int) == 255) = false := by
            rw [beq_eq_false_iff_ne]; intro h; exact hb1 (UInt8.toNat_inj.1 (by show b1.toNat = 255; omega))
          by_cases hb2 : b1 = 1
          · have z2 : ((b1.toNat : Int) == 1) = true := by rw [hb2]; rfl
            have hut : unText l = some (d, l.drop (k + 2)) := by
              rw [HU.out, HD0.out, hb0, hb2, unText, if_pos rfl, if_neg (by decide), if_pos rfl]
              simp
            have HUT := Lib.hid hut
            clear hut hb0 hb1 hb2
            have kc := run_string_seg (P := Try.prog) wr 31 9 5 bt Try.underlying9 A' d.length c' d hs'
            obtain ⟨t, ht⟩ : ∃ t : ByteArray, (⟨d.toArray⟩ : ByteArray) = t := ⟨_, rfl⟩
            rw [ht] at kc
            have hts : t.size = d.length := by rw [← ht]; rfl
            have HTT := Lib.hid ht
            clear ht
            obtain ⟨A2, hA2, hseg⟩ : ∃ A2, (if c = k + 2 then some (⟨g, o, none⟩ : Addr) else some ⟨g, o + (k + 2), none⟩) = A2 ∧ ∀ W, Seg W (some ⟨g, o, none⟩) n l → Seg W A2 (n - (k + 2)) (l.drop (k + 2)) := ⟨_, rfl, fun W h => h.from_ (k + 2) c (by omega) hnc⟩
            have HSEG := Lib.hid hseg
            clear hseg
            have hok : V.okB ⟨2, 0, t⟩ = decide (d.length ≤ 200) := by
              rw [← V.okB2 ⟨2, 0, t⟩ rfl rfl]
              simp only [hts]
              rw [Bool.eq_iff_iff]
              simp
              omega
            have hk2 : (k : Int) + 2 ≤ (n : Int) := by omega
            have hk3 : IntKind.i64.wrap ((k : Int) + 2) = (k : Int) + 2 := IntWalk.i64_in _ (by omega)
            have hk4 : (0 : Int) ≤ (k : Int) + 2 := by omega
            have hk5 : ((k : Int) + 2).toNat = k + 2 := by omega
            go_wp2
            have x0 : (wr.alloc (.cells #[.int .u8 2, .int .i64 0, .string t] 41)).cell? ⟨wr.heap.size, 0, none⟩ = some (.int .u8 2) := by simp
            have x1 : (wr.alloc (.cells #[.int .u8 2, .int .i64 0, .string t] 41)).cell? ⟨wr.heap.size, 1, none⟩ = some (.int .i64 0) := by simp
            have x2 : (wr.alloc (.cells #[.int .u8 2, .int .i64 0, .string t] 41)).cell? ⟨wr.heap.size, 2, none⟩ = some (.string t) := by simp
            replace hbw : Below (w.heap.size + 1) (w.alloc (.cells #[.int .u8 0, .int .i64 0, .string ⟨#[]⟩] 41)) (wr.alloc (.cells #[.int .u8 2, .int .i64 0, .string t] 41)) := hbw.alloc (by omega) _
            have hszW : w.heap.size + 1 ≤ (wr.alloc (.cells #[.int .u8 2, .int .i64 0, .string t] 41)).heap.size := by simp; omega
            have hne : ¬ wr.heap.size = w.heap.size := by omega
            have hne' : ¬ w.heap.size = wr.heap.size := by omega
            clear kc q0 q1 q2 hfr hod hs' e0 e1
            generalize wr.alloc (.cells #[.int .u8 2, .int .i64 0, .string t] 41) = W at *
            generalize wr.heap.size = bt7 at *
            go_region_held3 (fun W' => W'.cell? ⟨bt7, 0, none⟩ = some (.int .u8 2) ∧ W'.cell? ⟨bt7, 1, none⟩ = some (.int .i64 0) ∧ W'.cell? ⟨bt7, 2, none⟩ = some (.string t))
              (first | exact ⟨x0, x1, x2⟩ | exact ⟨cell_below hB x0, cell_below hB x1, cell_below hB x2⟩ | go_keep)
              (first
                | (go_at_call 57; refine (right_any ⟨2, 0, t⟩ _).mono ?_; rintro e w2 ⟨rfl, hb2⟩; have hB : Below W.heap.size W w2 := Below.undrew hb2; have hbw2 : Below (w.heap.size + 1) (w.alloc (.cells #[.int .u8 0, .int .i64 0, .string ⟨#[]⟩] 41)) w2 := Below.next' hbw hB hszW; obtain ⟨q0, q1, q2, hfr, hsz2⟩ := box3B hbw2 (Nat.lt_succ_self _); have y0 := cell_below hB x0; have y1 := cell_below hB x1; have y2 := cell_below hB x2))
            go_wp2
            refine bodyPost_ret (v := .tuple #[.agg #[.int .u8 2, .int .i64 0, .string t], .slice A2 (n - (k + 2)) (c - (k + 2)), .bool (decide (d.length ≤ 200))]) (by simp [results, Try.results68, go_sem, q0, q1, q2]) rfl ?_
            have hbE : Below w.heap.size w (((w2.setCell ⟨w.heap.size, 0, none⟩ (.int .u8 2)).setCell ⟨w.heap.size, 1, none⟩ (.int .i64 0)).setCell ⟨w.heap.size, 2, none⟩ (.string t)) :=
              ((((((Below.refl _ _).alloc (Nat.le_refl _) _).trans (hbw2.mono (by omega))).setCell (Nat.le_refl _) _)).setCell (Nat.le_refl _) _).setCell (Nat.le_refl _) _
            by_cases hd : d.length ≤ 200
            · have e : back1 3 l = some (⟨2, 0, t⟩, l.drop (k + 2)) := by
                rw [back1_3, HUT.out]
                simp only [if_pos hd]
                rw [HTT.out]
              rw [e, decide_eq_true hd]
              exact Bk3.yes ⟨2, 0, t⟩ _ A2 _ _ HSEG.out (by omega) (by unfold maxLen at hcm ⊢; omega) hbE
            · have e : back1 3 l = none := by
                rw [back1_3, HUT.out]
                simp only [if_neg hd]
              rw [e, decide_eq_false hd]
              exact Bk3.no ⟨2, 0, t⟩ A2 _ _ hbE
          · have z2 : ((b1.toNat : Int) == 1) = false := by
              rw [beq_eq_false_iff_ne]; intro h; exact hb2 (UInt8.toNat_inj.1 (by show b1.toNat = 1; omega))
            have hut : back1 3 l = none := by
              rw [back1_3, HU.out, HD0.out, hb0, unText, if_pos rfl, if_neg hb1, if_neg hb2]
              rfl
            have HUT := Lib.hid hut
            clear hut hb0 hb1 hb2
            go_wp2
            refine bodyPost_ret (v := .tuple #[.agg #[.int .u8 0, .int .i64 0, .string ⟨#[]⟩], .slice none 0 0, .bool false]) (by simp [results, Try.results68, go_sem, q0, q1, q2]) rfl ?_
            rw [HUT.out]
            refine Bk3.no V.none none 0 0 ?_
            exact ((((((Below.refl _ _).alloc (Nat.le_refl _) _).trans (hbw.mono (by omega))).setCell (Nat.le_refl _) _)).setCell (Nat.le_refl _) _).setCell (Nat.le_refl _) _
      · have z0 : ((b0.toNat : Int) != 0) = true := by
          rw [bne_iff_ne]; intro h; exact hb0 (UInt8.toNat_inj.1 (by simpa using h))
        have HB0 := Lib.hid hb0
        clear hb0
        go_wp2_with (first
            | (at_builtin
               refine wpList_append_seg _ rfl (.tmp 20) (.tmp 25) _ _ bt rfl (w.heap.size + 1) _ d rfl (hod.alloc _) _ 1 1 [b0] rfl (Seg.one _ _ _ _ rfl) (by omega) (by simp; omega) ?_
               intro v2 w2 ho2 hg2 _
               obtain ⟨d2, hd2⟩ : ∃ d2, d ++ [b0] = d2 := ⟨_, rfl⟩
               have hl2 : d2.length ≤ d.length + 1 := by rw [← hd2]; simp
               have hbw2 := below_grown (hbw.alloc (by omega) _) (hod.alloc _) hg2 (Nat.le_refl _) (by simp; omega)
               rw [hd2] at ho2
               have HD2 := Lib.hid hd2
               clear hd2 hg2
               obtain ⟨A2, c2, rfl, hs2, hlc2, hcm2⟩ := ho2.forms))
        go_roundw
        case rel =>
          refine ⟨k + 1, d2, by omega, by go_num, ?_, by omega, ho2, hbw2⟩
          rw [HU.out, HD0.out, unText, if_neg HB0.out, HD1.out, ← HD2.out, Option.map_map]
          congr 1
          funext x
          simp
        case measure => simp [intOf]; omega
    · have hk1' : ¬ (k : Int) + 1 < (n : Int) := by omega
      have hut : back1 3 l = none := by
        rw [back1_3, HU.out, unText_short _ (by rw [List.length_drop]; omega)]
        rfl
      have HUT := Lib.hid hut
      clear hut
      go_wp2
      refine bodyPost_ret (v := .tuple #[.agg #[.int .u8 0, .int .i64 0, .string ⟨#[]⟩], .slice none 0 0, .bool false]) (by simp [results, Try.results68, go_sem, q0, q1, q2]) rfl ?_
      rw [HUT.out]
      refine Bk3.no V.none none 0 0 ?_
      exact ((((((Below.refl _ _).alloc (Nat.le_refl _) _).trans (hbw.mono (by omega))).setCell (Nat.le_refl _) _)).setCell (Nat.le_refl _) _).setCell (Nat.le_refl _) _

set_option maxHeartbeats 1000000 in
theorem backOne_any (b : UInt8) (A : Option Addr) (n c : Nat) (l : List UInt8) (w : World) (ha : Seg w A n l) (hnc : n ≤ c) (hcm : c ≤ maxLen) (hn : n ≤ 1000000) :
    Calls Try.prog 62 #[.int .u8 (b.toNat : Int), .slice A n c] w (Bk3 w (back1 b l) A n l) := by
  by_cases h1 : b = 1
  · subst h1
    have er : back1 1 l = some (V.none, l) := rfl
    rw [er]
    clear er
    go_enter Try.func62, Try.ntmps62
    go_wp2
    refine bodyPost_ret (v := .tuple #[.agg #[.int .u8 0, .int .i64 0, .string ⟨#[]⟩], .slice A n c, .bool true]) (by simp [results, Try.results62, go_sem]) rfl (Bk3.yes V.none l A n c (fun W h => h) hnc hcm ?_)
    exact (Below.refl _ _).alloc (Nat.le_refl _) _
  · have z1 : ((b.toNat : Int) == 1) = false := by
      rw [beq_eq_false_iff_ne]; intro h; exact h1 (UInt8.toNat_inj.1 (by show b.toNat = 1; omega))
    by_cases h2 : b = 2
    · subst h2
      go_enter Try.func62, Try.ntmps62
      go_wp2_with fail
      refine (backNumber_any A n c l _ (ha.alloc _) hnc hcm hn).mono ?_
      rintro e w1 ⟨x, A', n', c', rfl, hs, hb⟩
      obtain ⟨hc0, hc1, hc2, hfr, hsz⟩ := box3 hb
      generalize back1 2 l = R at *
      have HS := Lib.hid hs
      clear hs
      go_wp2
      refine bodyPost_ret (v := .tuple #[.agg #[.int .u8 x.k, .int .i64 x.n, .string x.s], .slice A' n' c', .bool R.isSome]) (by simp [results, Try.results62, go_sem, hc0, hc1, hc2]) rfl ⟨x, A', n', c', rfl, HS.out, ?_⟩
      exact ((((((Below.refl _ _).alloc (Nat.le_refl _) _).trans (hb.mono (by simp))).setCell (Nat.le_refl _) _)).setCell (Nat.le_refl _) _).setCell (Nat.le_refl _) _
    · have z2 : ((b.toNat : Int) == 2) = false := by
        rw [beq_eq_false_iff_ne]; intro h; exact h2 (UInt8.toNat_inj.1 (by show b.toNat = 2; omega))
      by_cases h3 : b = 3
      · subst h3
        clear z1 z2 h1 h2
        go_enter Try.func62, Try.ntmps62
        go_wp2_with fail
        refine (backText_any A n c l _ (ha.alloc _) hnc hcm hn).mono ?_
        rintro e w1 ⟨x, A', n', c', rfl, hs, hb⟩
        obtain ⟨hc0, hc1, hc2, hfr, hsz⟩ := box3 hb
        generalize back1 3 l = R at *
        have HS := Lib.hid hs
        clear hs
        go_wp2
        refine bodyPost_ret (v := .tuple #[.agg #[.int .u8 x.k, .int .i64 x.n, .string x.s], .slice A' n' c', .bool R.isSome]) (by simp [results, Try.results62, go_sem, hc0, hc1, hc2]) rfl ⟨x, A', n', c', rfl, HS.out, ?_⟩
        exact ((((((Below.refl _ _).alloc (Nat.le_refl _) _).trans (hb.mono (by simp))).setCell (Nat.le_refl _) _)).setCell (Nat.le_refl _) _).setCell (Nat.le_refl _) _
      · have z3 : ((b.toNat : Int) == 3) = false := by
          rw [beq_eq_false_iff_ne]; intro h; exact h3 (UInt8.toNat_inj.1 (by show b.toNat = 3; omega))
        have er : back1 b l = none := by unfold back1; rw [if_neg h1, if_neg h2, if_neg h3]
        rw [er]
        clear er
        go_enter Try.func62, Try.ntmps62
        go_wp2
        refine bodyPost_ret (v := .tuple #[.agg #[.int .u8 0, .int .i64 0, .string ⟨#[]⟩], .slice none 0 0, .bool false]) (by simp [results, Try.results62, go_sem]) rfl (Bk3.no V.none none 0 0 ?_)
        exact (Below.refl _ _).alloc (Nat.le_refl _) _

end Go.Proofs.Ytcmagjeplofagaa
