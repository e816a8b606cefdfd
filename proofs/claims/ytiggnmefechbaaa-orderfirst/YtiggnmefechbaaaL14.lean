/-
  The walk of the law OrderFirst.
-/
import Derived.Test.YtiggnmefechbaaaL10
import Derived.Test.YtiggnmefechbaaaOpen
namespace Go.Proofs.Ytiggnmefechbaaa
open Go.RowKit
open Go.Op (bytesLess)

/-- The text of a value's key. -/
def keyT (v : V) : ByteArray := ⟨(keyOf [v]).toArray⟩
theorem keyT_eq (v : V) : (⟨(keyOf [v]).toArray⟩ : ByteArray) = keyT v := rfl
theorem one_ok {v : V} (h : v.Ok) : ∀ x ∈ [v], x.Ok := fun x hx => by
  simp only [List.mem_singleton] at hx
  subst hx
  exact h

theorem cmpL_one (v u : V) : cmpL [v] [u] = cmpV v u := by
  show (if cmpV v u ≠ 0 then cmpV v u else 0) = cmpV v u
  by_cases h : cmpV v u = 0
  · rw [if_neg (by simpa using h), h]
  · rw [if_pos h]
theorem keyT_lt (v u : V) (hv : v.Ok) (hu : u.Ok) : bytesLess (keyT v).toList (keyT u).toList = decide (cmpV v u < 0) := by
  rcases key_three [v] [u] (one_ok hv) (one_ok hu) (keyT v) (keyT u) rfl rfl with ⟨h1, h2, _⟩ | ⟨h1, h2, _⟩ | ⟨h1, h2, _⟩ <;> rw [cmpL_one] at h1 <;> rw [h1, h2] <;> rfl
theorem keyT_same (v u : V) (hv : v.Ok) (hu : u.Ok) : ((keyT v).toList == (keyT u).toList) = decide (cmpV v u = 0) := by
  rcases key_three [v] [u] (one_ok hv) (one_ok hu) (keyT v) (keyT u) rfl rfl with ⟨h1, _, h2⟩ | ⟨h1, _, h2⟩ | ⟨h1, _, h2⟩ <;> rw [cmpL_one] at h1 <;> rw [h1, h2] <;> rfl
theorem cmpV_num (a b : Int) : decide (cmpV ⟨1, a, ⟨#[]⟩⟩ ⟨1, b, ⟨#[]⟩⟩ < 0) = decide (a < b) := by
  rcases Int.lt_trichotomy a b with h | h | h
  · simp [cmpV, h]
  · subst h; simp [cmpV, bl_nil]
  · have h' : ¬ a < b := by omega
    simp [cmpV, bl_nil, h, h']
theorem cmpV_num0 (a b : Int) : decide (cmpV ⟨1, a, ⟨#[]⟩⟩ ⟨1, b, ⟨#[]⟩⟩ = 0) = (a == b) := by
  rcases Int.lt_trichotomy a b with h | h | h
  · have h' : ¬ a = b := by omega
    simp [cmpV, h, h']
  · subst h; simp [cmpV, bl_nil]
  · have h' : ¬ a < b := by omega
    have h'' : ¬ a = b := by omega
    simp [cmpV, bl_nil, h, h', h'']
theorem cmpV_text (s t : ByteArray) : decide (cmpV ⟨2, 0, s⟩ ⟨2, 0, t⟩ < 0) = bytesLess s.toList t.toList := by
  rcases bl_tri s.toList t.toList with ⟨h1, h2, _⟩ | ⟨h1, h2, _⟩ | ⟨h1, h2, _⟩ <;> simp [cmpV, h1, h2]
theorem cmpV_text0 (s t : ByteArray) : decide (cmpV ⟨2, 0, s⟩ ⟨2, 0, t⟩ = 0) = (s.toList == t.toList) := by
  rcases bl_tri s.toList t.toList with ⟨h1, h2, h3⟩ | ⟨h1, h2, h3⟩ | ⟨h1, h2, h3⟩ <;> simp [cmpV, bl_irr, h1, h2, h3]

theorem b1 {W X : World} (h : Below W.heap.size W X) {w1 : World} (hb : Below X.heap.size X w1) : Below W.heap.size W w1 := Below.next h hb
theorem b2 {W X : World} (h : Below W.heap.size W X) (o : Obj) {w1 : World} (hb : Below (X.alloc o).heap.size (X.alloc o) w1) : Below W.heap.size W w1 := Below.next (h.alloc h.size o) hb
theorem b3 {W X : World} (h : Below W.heap.size W X) (o p : Obj) {w1 : World} (hb : Below ((X.alloc o).alloc p).heap.size ((X.alloc o).alloc p) w1) : Below W.heap.size W w1 :=
  Below.next ((h.alloc h.size o).alloc (by have := h.size; simp; omega) p) hb

theorem nA (w : World) (l : List V) (t : TypeId) (cs : Array Value) (n : Nat) (hcs : cs = (cellsV l).toArray) (hn : n = l.length) : SegV (w.drew.alloc (.cells cs t)) (some ⟨w.heap.size, 0, none⟩) n l := SegV.newAt _ _ _ _ _ _ rfl hcs hn
theorem nB (w : World) (o : Obj) (l : List V) (t : TypeId) (cs : Array Value) (n : Nat) (hcs : cs = (cellsV l).toArray) (hn : n = l.length) : SegV ((w.drew.alloc o).alloc (.cells cs t)) (some ⟨w.heap.size + 1, 0, none⟩) n l := SegV.newAt _ _ _ _ _ _ (World.size_alloc _ _).symm hcs hn
theorem nA' (w : World) (l : List V) (t : TypeId) (cs : Array Value) (n : Nat) (o : Obj) (hcs : cs = (cellsV l).toArray) (hn : n = l.length) : SegV ((w.drew.alloc (.cells cs t)).alloc o) (some ⟨w.heap.size, 0, none⟩) n l := (nA w l t cs n hcs hn).alloc o
theorem nC (w : World) (l : List V) (t : TypeId) (cs : Array Value) (n : Nat) (hcs : cs = (cellsV l).toArray) (hn : n = l.length) : SegV (w.alloc (.cells cs t)) (some ⟨w.heap.size, 0, none⟩) n l := SegV.newAt _ _ _ _ _ _ rfl hcs hn

set_option maxRecDepth 20000 in
set_option maxHeartbeats 8000000 in
theorem orderFirst_walk (a b : Int) (s t : ByteArray) (w : World) (ha : (Lit.int .i64 a).wf = true) (hb : (Lit.int .i64 b).wf = true) (_ : s.size ≤ maxLen) (_ : t.size ≤ maxLen) :
    Calls Try.prog 14 #[.int .i64 a, .int .i64 b, .string s, .string t] w fun e w' => e = .returned (.bool true) ∧ Below w.heap.size w w' := by
  have ha0 := (bounds_i64 ha).1
  have ha1 := (bounds_i64 ha).2
  have hb0 := (bounds_i64 hb).1
  have hb1 := (bounds_i64 hb).2
  clear ha hb
  by_cases hs : s.size ≤ 100
  · have hs' : ¬ (100 : Int) < (s.size : Int) := by omega
    by_cases ht : t.size ≤ 100
    · have ht' : ¬ (100 : Int) < (t.size : Int) := by omega
      have okA : V.Ok ⟨1, a, ⟨#[]⟩⟩ := .inr (.inl ⟨rfl, rfl, ha0, ha1⟩)
      have okB : V.Ok ⟨1, b, ⟨#[]⟩⟩ := .inr (.inl ⟨rfl, rfl, hb0, hb1⟩)
      have okS : V.Ok ⟨2, 0, s⟩ := .inr (.inr ⟨rfl, rfl, by show s.size ≤ 200; omega⟩)
      have okT : V.Ok ⟨2, 0, t⟩ := .inr (.inr ⟨rfl, rfl, by show t.size ≤ 200; omega⟩)
      go_enter Try.func14, Try.ntmps14
      go_wp2_with fail
      refine (nought_any _).mono ?_
      rintro e w1 ⟨rfl, hb1⟩
      go_wp2_with fail
      refine (key_any _ 1 1 [V.none] _ (SegV.newAt _ _ _ _ _ _ rfl rfl rfl) (by omega) (one_ok (.inl ⟨rfl, rfl, rfl⟩))).mono ?_
      rintro e w2 ⟨r2, rfl, ho2, hb2⟩
      have hbw2 : Below w.heap.size w w2 := Below.next' (hb1.alloc hb1.size _) hb2 (by have := hb1.size; simp; omega)
      obtain ⟨A2, c2, rfl, hs2, hlc2, hcm2⟩ := ho2.forms
      have kc := run_string_seg (P := Try.prog) w2 24 9 5 bt Try.underlying9 A2 _ c2 _ hs2
      rw [keyT_eq] at kc
      clear ho2 hb2 hb1
      go_wp2
      clear kc hs2
      go_cut [10, 11] (fun p q wc => p = .string (keyT ⟨1, a, ⟨#[]⟩⟩) ∧ q = .string (keyT ⟨1, b, ⟨#[]⟩⟩) ∧ Below w2.heap.size w2 wc)
      case first =>
        have hW : Below w2.heap.size w2 w2.drew := (Below.refl _ _).drew
        go_region_with (first
          | (go_at_call 31
             refine (key_any _ 1 1 [⟨1, a, ⟨#[]⟩⟩] _ (by first | exact nA _ _ _ _ _ rfl rfl | exact nA' _ _ _ _ _ _ rfl rfl | exact nB _ _ _ _ _ _ rfl rfl | exact nC _ _ _ _ _ rfl rfl | exact hva) (by omega) (one_ok okA)).mono ?_
             rintro e wa ⟨ra, rfl, hoa, hba⟩
             have hBa : Below w2.heap.size w2 wa := by first | exact b1 hBb hba | exact b2 hBb _ hba | exact b2 hW _ hba | exact b3 hW _ _ hba
             (try have hvb : SegV wa (some ⟨w2.heap.size, 0, none⟩) 1 [⟨1, b, ⟨#[]⟩⟩] := by refine SegV.below ?_ hba; first | exact nA _ _ _ _ _ rfl rfl | exact nA' _ _ _ _ _ _ rfl rfl)
             (try have hvb : SegV wa (some ⟨w2.heap.size + 1, 0, none⟩) 1 [⟨1, b, ⟨#[]⟩⟩] := by refine SegV.below ?_ hba; exact nB _ _ _ _ _ _ rfl rfl)
             obtain ⟨Aa, ca, rfl, hsa, hlca, hcma⟩ := hoa.forms
             have kca := run_string_seg (P := Try.prog) wa 24 9 5 bt Try.underlying9 Aa _ ca _ hsa
             rw [keyT_eq] at kca
             (try have kca2 := fun o => run_string_seg (P := Try.prog) (wa.alloc o) 24 9 5 bt Try.underlying9 Aa _ ca _ (hsa.alloc o))
             (try rw [keyT_eq] at kca2)
             (try have kca3 := run_string_seg (P := Try.prog) wa 24 9 5 bt Try.underlying9 Ab _ cb _ (by first | exact hsb.below hba | exact (hsb.alloc _).below hba))
             (try rw [keyT_eq] at kca3)
             clear hoa)
          | (go_at_call 31
             refine (key_any _ 1 1 [⟨1, b, ⟨#[]⟩⟩] _ (by first | exact nA _ _ _ _ _ rfl rfl | exact nA' _ _ _ _ _ _ rfl rfl | exact nB _ _ _ _ _ _ rfl rfl | exact nC _ _ _ _ _ rfl rfl | exact hvb) (by omega) (one_ok okB)).mono ?_
             rintro e wb ⟨rb, rfl, hob, hbb⟩
             have hBb : Below w2.heap.size w2 wb := by first | exact b1 hBa hbb | exact b2 hBa _ hbb | exact b2 hW _ hbb | exact b3 hW _ _ hbb
             (try have hva : SegV wb (some ⟨w2.heap.size, 0, none⟩) 1 [⟨1, a, ⟨#[]⟩⟩] := by refine SegV.below ?_ hbb; first | exact nA _ _ _ _ _ rfl rfl | exact nA' _ _ _ _ _ _ rfl rfl)
             (try have hva : SegV wb (some ⟨w2.heap.size + 1, 0, none⟩) 1 [⟨1, a, ⟨#[]⟩⟩] := by refine SegV.below ?_ hbb; exact nB _ _ _ _ _ _ rfl rfl)
             obtain ⟨Ab, cb, rfl, hsb, hlcb, hcmb⟩ := hob.forms
             have kcb := run_string_seg (P := Try.prog) wb 24 9 5 bt Try.underlying9 Ab _ cb _ hsb
             rw [keyT_eq] at kcb
             (try have kcb2 := fun o => run_string_seg (P := Try.prog) (wb.alloc o) 24 9 5 bt Try.underlying9 Ab _ cb _ (hsb.alloc o))
             (try rw [keyT_eq] at kcb2)
             (try have kcb3 := run_string_seg (P := Try.prog) wb 24 9 5 bt Try.underlying9 Aa _ ca _ (by first | exact hsa.below hbb | exact (hsa.alloc _).below hbb))
             (try rw [keyT_eq] at kcb3)
             clear hob))
        all_goals go_wp2_with fail
        all_goals go_meet
        all_goals first | exact ⟨rfl, rfl, hBb⟩ | exact ⟨rfl, rfl, hBa⟩ | exact ⟨rfl, rfl, hBb.alloc hBb.size _⟩ | exact ⟨rfl, rfl, hBa.alloc hBa.size _⟩
      case rest =>
        obtain ⟨rfl, rfl, hbc⟩ := hcut
        have hbw4 : Below w.heap.size w wc := Below.next' hbw2 hbc hbw2.size
        clear hbc hbw2
        rename World => wd
        go_wp2
        go_cut [12, 13] (fun p q wc => p = .string (keyT ⟨2, 0, s⟩) ∧ q = .string (keyT ⟨2, 0, t⟩) ∧ Below wd.heap.size wd wc)
        case first =>
          have hW : Below wd.heap.size wd wd.drew := (Below.refl _ _).drew
          go_region_with (first
            | (go_at_call 31
               refine (key_any _ 1 1 [⟨2, 0, s⟩] _ (by first | exact nA _ _ _ _ _ rfl rfl | exact nA' _ _ _ _ _ _ rfl rfl | exact nB _ _ _ _ _ _ rfl rfl | exact nC _ _ _ _ _ rfl rfl | exact hva) (by omega) (one_ok okS)).mono ?_
               rintro e wa ⟨ra, rfl, hoa, hba⟩
               have hBa : Below wd.heap.size wd wa := by first | exact b1 hBb hba | exact b2 hBb _ hba | exact b2 hW _ hba | exact b3 hW _ _ hba
               (try have hvb : SegV wa (some ⟨wd.heap.size, 0, none⟩) 1 [⟨2, 0, t⟩] := by refine SegV.below ?_ hba; first | exact nA _ _ _ _ _ rfl rfl | exact nA' _ _ _ _ _ _ rfl rfl)
               (try have hvb : SegV wa (some ⟨wd.heap.size + 1, 0, none⟩) 1 [⟨2, 0, t⟩] := by refine SegV.below ?_ hba; exact nB _ _ _ _ _ _ rfl rfl)
               obtain ⟨Aa, ca, rfl, hsa, hlca, hcma⟩ := hoa.forms
               have kca := run_string_seg (P := Try.prog) wa 24 9 5 bt Try.underlying9 Aa _ ca _ hsa
               rw [keyT_eq] at kca
               (try have kca2 := fun o => run_string_seg (P := Try.prog) (wa.alloc o) 24 9 5 bt Try.underlying9 Aa _ ca _ (hsa.alloc o))
               (try rw [keyT_eq] at kca2)
               (try have kca3 := run_string_seg (P := Try.prog) wa 24 9 5 bt Try.underlying9 Ab _ cb _ (by first | exact hsb.below hba | exact (hsb.alloc _).below hba))
               (try rw [keyT_eq] at kca3)
               clear hoa)
            | (go_at_call 31
               refine (key_any _ 1 1 [⟨2, 0, t⟩] _ (by first | exact nA _ _ _ _ _ rfl rfl | exact nA' _ _ _ _ _ _ rfl rfl | exact nB _ _ _ _ _ _ rfl rfl | exact nC _ _ _ _ _ rfl rfl | exact hvb) (by omega) (one_ok okT)).mono ?_
               rintro e wb ⟨rb, rfl, hob, hbb⟩
               have hBb : Below wd.heap.size wd wb := by first | exact b1 hBa hbb | exact b2 hBa _ hbb | exact b2 hW _ hbb | exact b3 hW _ _ hbb
               (try have hva : SegV wb (some ⟨wd.heap.size, 0, none⟩) 1 [⟨2, 0, s⟩] := by refine SegV.below ?_ hbb; first | exact nA _ _ _ _ _ rfl rfl | exact nA' _ _ _ _ _ _ rfl rfl)
               (try have hva : SegV wb (some ⟨wd.heap.size + 1, 0, none⟩) 1 [⟨2, 0, s⟩] := by refine SegV.below ?_ hbb; exact nB _ _ _ _ _ _ rfl rfl)
               obtain ⟨Ab, cb, rfl, hsb, hlcb, hcmb⟩ := hob.forms
               have kcb := run_string_seg (P := Try.prog) wb 24 9 5 bt Try.underlying9 Ab _ cb _ hsb
               rw [keyT_eq] at kcb
               (try have kcb2 := fun o => run_string_seg (P := Try.prog) (wb.alloc o) 24 9 5 bt Try.underlying9 Ab _ cb _ (hsb.alloc o))
               (try rw [keyT_eq] at kcb2)
               (try have kcb3 := run_string_seg (P := Try.prog) wb 24 9 5 bt Try.underlying9 Aa _ ca _ (by first | exact hsa.below hbb | exact (hsa.alloc _).below hbb))
               (try rw [keyT_eq] at kcb3)
               clear hob))
          all_goals go_wp2_with fail
          all_goals go_meet
          all_goals first | exact ⟨rfl, rfl, hBb⟩ | exact ⟨rfl, rfl, hBa⟩ | exact ⟨rfl, rfl, hBb.alloc hBb.size _⟩ | exact ⟨rfl, rfl, hBa.alloc hBa.size _⟩
        case rest =>
          obtain ⟨rfl, rfl, hbc⟩ := hcut
          have hbw5 : Below w.heap.size w wc := Below.next' hbw4 hbc hbw4.size
          clear hbc hbw4
          have okN : V.Ok V.none := .inl ⟨rfl, rfl, rfl⟩
          have f1 : bytesLess (keyT V.none).toList (keyT ⟨1, a, ⟨#[]⟩⟩).toList = true := by rw [keyT_lt _ _ okN okA]; simp [cmpV, V.none]
          have f2 : bytesLess (keyT ⟨1, a, ⟨#[]⟩⟩).toList (keyT ⟨2, 0, s⟩).toList = true := by rw [keyT_lt _ _ okA okS]; simp [cmpV]
          have f3 : bytesLess (keyT V.none).toList (keyT ⟨2, 0, s⟩).toList = true := by rw [keyT_lt _ _ okN okS]; simp [cmpV, V.none]
          have f4 : bytesLess (keyT ⟨1, a, ⟨#[]⟩⟩).toList (keyT ⟨1, b, ⟨#[]⟩⟩).toList = decide (a < b) := by rw [keyT_lt _ _ okA okB, cmpV_num]
          have f5 : bytesLess (keyT ⟨2, 0, s⟩).toList (keyT ⟨2, 0, t⟩).toList = bytesLess s.toList t.toList := by rw [keyT_lt _ _ okS okT, cmpV_text]
          have f6 : ((keyT ⟨1, a, ⟨#[]⟩⟩).toList == (keyT ⟨1, b, ⟨#[]⟩⟩).toList) = (a == b) := by rw [keyT_same _ _ okA okB, cmpV_num0]
          have f7 : ((keyT ⟨2, 0, s⟩).toList == (keyT ⟨2, 0, t⟩).toList) = (s.toList == t.toList) := by rw [keyT_same _ _ okS okT, cmpV_text0]
          generalize keyT V.none = X0 at *
          generalize keyT ⟨1, a, ⟨#[]⟩⟩ = Xa at *
          generalize keyT ⟨1, b, ⟨#[]⟩⟩ = Xb at *
          generalize keyT ⟨2, 0, s⟩ = Xs at *
          generalize keyT ⟨2, 0, t⟩ = Xt at *
          clear okA okB okS okT okN
          go_wp2
          go_ret
          exact ⟨rfl, hbw5⟩
    · have ht' : (100 : Int) < (t.size : Int) := by omega
      go_enter Try.func14, Try.ntmps14
      go_wp2_with fail
      refine (nought_any _).mono ?_
      rintro e w1 ⟨rfl, hb1⟩
      go_wp2_with fail
      refine (nought_any _).mono ?_
      rintro e w2 ⟨rfl, hb2⟩
      go_wp2
      go_ret
      exact ⟨rfl, Below.next' hb1 hb2 hb1.size⟩
  · have hs' : (100 : Int) < (s.size : Int) := by omega
    go_enter Try.func14, Try.ntmps14
    go_wp2_with fail
    refine (nought_any _).mono ?_
    rintro e w1 ⟨rfl, hb1⟩
    go_wp2_with fail
    refine (nought_any _).mono ?_
    rintro e w2 ⟨rfl, hb2⟩
    go_wp2
    go_ret
    exact ⟨rfl, Below.next' hb1 hb2 hb1.size⟩

end Go.Proofs.Ytiggnmefechbaaa
