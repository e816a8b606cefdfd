/-
  The walk of the law TrieHalves.
-/
import Derived.Test.YtpbjianhkjjgkaaDoorYBL3
namespace Go.Proofs.YtpbjianhkjjgkaaDoor
open Go.RowKit

set_option maxRecDepth 8000 in
set_option maxHeartbeats 64000000 in
theorem trieHalves_core (A : Option Addr) (n c : Nat) (L : List TAct) (B : Option Addr) (np cp : Nat) (pb : List Bool) (w : World) (ha : SegTA w A n L) (hnc : n ≤ c) (hcm : c ≤ maxLen) (hp : SegG boolLay w B np pb) (_ : np ≤ cp) (hsm : SmallA 40 L) (h60 : np ≤ 60) (ht : Tab w) :
    Calls Tryd.prog 6 #[.slice A n c, .slice B np cp] w fun e w' => e = .returned (.bool true) ∧ Below w.heap.size w w' := by
  have d60 : decide ((60 : Int) < (np : Int)) = false := decide_eq_false (by omega)
  have hI := madeI_its L
  have hrw := madeI_row hsm
  have HMA := Lib.hid (fun W (h : Below w.heap.size w W) => made09_any A n c L W (ha.below h) hcm hnc hsm.1 (Tab.below ht h))
  have HSM := Lib.hid (fun W (h : Below w.heap.size w W) => small09_any A n c L true W (ha.below h) hcm hnc ⟨fun _ => hsm, fun _ => rfl⟩)
  obtain ⟨m, hmm⟩ : ∃ m, madeI L = m := ⟨_, rfl⟩
  simp only [hmm] at HMA hI hrw
  have hgm := Good.root hI.1 hI.2
  have hml := its_len hI
  have HG := Lib.hid (fun d => pathI_good (pb := pb) hgm d)
  have HL := Lib.hid (fun d => Nat.le_trans (pathI_len pb m d) hml)
  have HRW := Lib.hid (fun d x (hx : x ∈ pathI pb m d) => hrw x (pathI_sub d x hx))
  have HPB := Lib.hid (fun W (h : Below w.heap.size w W) (k : Nat) (hk : k < np) => (hp.below h).boolAt hk)
  have hpl := hp.1
  have HPE := Lib.hid (fun (k : Nat) (hk : k < np) => show pb[k]'(by rw [hpl]; exact hk) = pb.getD k false by rw [List.getD_eq_getElem?_getD, List.getElem?_eq_getElem (by rw [hpl]; exact hk)]; rfl)
  clear hmm hsm hrw hgm hI ha hnc hml
  go_enter Tryd.func6, Tryd.ntmps6
  go_wp2_with fail
  refine (back_any _ ht).mono ?_
  rintro e w1 ⟨rfl, hb1⟩
  go_wp2_with fail
  refine (HSM.out _ hb1).mono ?_
  rintro e w2 ⟨rfl, rfl⟩
  go_wp2_with fail
  refine (HMA.out _ hb1).mono ?_
  rintro e w3 ⟨p, sv, S, rfl, hp, hso, hsi, hb3⟩
  have hb := Below.next' hb1 hb3 hb1.size
  obtain ⟨pq, rfl⟩ := hp.ptr
  obtain ⟨SA, sc, rfl, hsg, _, _⟩ := hso.forms
  clear hso hb1 hb3 HSM
  go_wp2_with fail
  go_loopw [5, 6, 7, 8, 9, 10, 11, 12, 13, 14, 15, 16, 17] (fun nv mv iv _ _ _ _ _ _ _ _ _ _ w' => ∃ (i : Nat) (S : List ItS) (A' : Option Addr) (n' c' : Nat), i ≤ np ∧ iv = .int .i64 (i : Int) ∧ mv = .slice A' n' c' ∧ TreeAt w' (tree (256 - i) (pathI pb m i) i) nv ∧ SegG itLay w' A' n' S ∧ ItsAt w' S (pathI pb m i) ∧ Below w.heap.size w w') (fun _ _ iv _ _ _ _ _ _ _ _ _ _ _ => np - (intOf iv).toNat)
  case atStart => exact ⟨0, S, SA, S.length, sc, by omega, rfl, rfl, hp, hsg, hsi, hb⟩
  case round =>
    clear hp hsg hsi hb
    obtain ⟨i, S, A', n', c', hi, rfl, rfl, hp, hsg, hsi, hb⟩ := hrel
    obtain ⟨pq, rfl⟩ := hp.ptr
    rename World => wl
    by_cases hlt : i < np
    · have hnl : (pathI pb m i).length = n' := by rw [← hsi.len, hsg.1]
      have hn280 : n' ≤ 280 := by have := HL.out i; omega
      have hDG := fun W (h : Below wl.heap.size wl W) => rdigest_any (256 - i) (pathI pb m i) i A' n' c' S W (by omega) (HG.out i) (by have := HL.out i; omega) (fun x hx => by have := HRW.out i x hx; omega) (hsg.below h) (hsi.below h)
      have hTD := fun W (h : Below wl.heap.size wl W) => tdig_any _ _ W (hp.below h) (Tab.below (Tab.below ht hb) h)
      have hzT := (tree (256 - i) (pathI pb m i) i).dig_size
      obtain ⟨X, hX⟩ : ∃ X : ByteArray, ⟨(tree (256 - i) (pathI pb m i) i).dig.toArray⟩ = X := ⟨_, rfl⟩
      rw [hX] at hDG hTD hzT
      have HX := Lib.hid hX
      have HDG := Lib.hid hDG
      have HTD := Lib.hid hTD
      have hXX : (X.toList == X.toList) = true := by simp
      clear hDG hTD hX
      by_cases h2 : 2 ≤ (pathI pb m i).length
      · have d1 : decide ((1 : Int) < (n' : Int)) = true := decide_eq_true (by omega)
        have d2 : ((n' : Int) == 1) = false := by simp; omega
        have hf : 256 - i = (255 - i) + 1 := by omega
        have hlf := tleaf_not (256 - i) (pathI pb m i) i _ wl (by omega) (HG.out i) hp (by omega)
        rw [hf] at hp
        obtain ⟨a, b, hta, htb, hh⟩ := thalves_at (255 - i) (pathI pb m i) i _ wl (by omega) (HG.out i) hp h2
        obtain ⟨aq, rfl⟩ := hta.ptr
        obtain ⟨bq, rfl⟩ := htb.ptr
        have HH := Lib.hid (hh _ (Below.refl _ _))
        have HLF := Lib.hid (fun W (h : Below wl.heap.size wl W) => tleaf_not (256 - i) (pathI pb m i) i _ W (by omega) (HG.out i) (by rw [hf]; exact hp.below h) (by omega))
        have hza := (tree (255 - i) (halfI (pathI pb m i) i 0) (i + 1)).dig_size
        have hzb := (tree (255 - i) (halfI (pathI pb m i) i 1) (i + 1)).dig_size
        have hta' := fun W (h : Below wl.heap.size wl W) => tdig_any _ _ W (hta.below h) (Tab.below (Tab.below ht hb) h)
        have htb' := fun W (h : Below wl.heap.size wl W) => tdig_any _ _ W (htb.below h) (Tab.below (Tab.below ht hb) h)
        obtain ⟨Y, hY⟩ : ∃ Y : ByteArray, ⟨(tree (255 - i) (halfI (pathI pb m i) i 0) (i + 1)).dig.toArray⟩ = Y := ⟨_, rfl⟩
        obtain ⟨Z, hZ⟩ : ∃ Z : ByteArray, ⟨(tree (255 - i) (halfI (pathI pb m i) i 1) (i + 1)).dig.toArray⟩ = Z := ⟨_, rfl⟩
        have hND : (⟨(sha (nodeL Y.data.toList Z.data.toList)).toArray⟩ : ByteArray) = X := by
          rw [← HX.out, hf, tree_two h2, ← hY, ← hZ]
          simp [Tr.dig]
        rw [hY] at hza hta'
        rw [hZ] at hzb htb'
        have HND := Lib.hid hND
        have HTA := Lib.hid (And.intro hta' htb')
        have HT2 := Lib.hid (And.intro hta htb)
        have HRH := Lib.hid (fun (j b : Nat) (A : Option Addr) (n c : Nat) (R : List ItS) (W : World) (h : SegG itLay W A n R) (h1 : ItsAt W R (pathI pb m j)) (h2 : j ≤ 1000) => rhalf_any A n c R j b W h (by have h3 := h1.len; have h4 := HL.out j; have h5 := h.1; omega) h1.keys h2)
        obtain ⟨gp, op, hBe, c0⟩ := HPB.out wl hb i hlt
        rw [HPE.out i hlt] at c0
        have hpi := show pathI pb m (i + 1) = halfI (pathI pb m i) i (bitB (pb.getD i false)) from rfl
        have hf2 : 256 - (i + 1) = 255 - i := by omega
        have HPI := Lib.hid hpi
        have HF2 := Lib.hid hf2
        clear hlf hh hta htb hta' htb' hND hY hZ hp hf h2 hpi hf2
        subst hBe
        go_wp2_with fail
        refine HH.out.mono ?_
        rintro e1 w4 ⟨rfl, hb4⟩
        have hbl := hb4
        clear hb4 HH
        go_wp2_with fail
        refine (HLF.out _ hbl).mono ?_
        rintro e2 w5 ⟨rfl, rfl⟩
        go_wp2_with fail
        refine (HTD.out _ hbl).mono ?_
        rintro e3 w6 ⟨rfl, hb6⟩
        have hbl := Below.next' hbl hb6 hbl.size
        clear hb6
        go_wp2_with fail
        refine (HDG.out _ hbl).mono ?_
        rintro e4 w7 ⟨rfl, hb7⟩
        have hbl := Below.next' hbl hb7 hbl.size
        clear hb7
        go_wp2_with fail
        refine (HTD.out _ hbl).mono ?_
        rintro e5 w8 ⟨rfl, hb8⟩
        have hbl := Below.next' hbl hb8 hbl.size
        clear hb8
        go_wp2_with fail
        refine (HTA.out.1 _ hbl).mono ?_
        rintro e6 w9 ⟨rfl, hb9⟩
        have hbl := Below.next' hbl hb9 hbl.size
        clear hb9
        go_wp2_with fail
        refine (HTA.out.2 _ hbl).mono ?_
        rintro e7 w10 ⟨rfl, hb10⟩
        have hbl := Below.next' hbl hb10 hbl.size
        clear hb10
        go_wp2_with fail
        refine (rnodeB_any Y Z _ (by omega) (by omega)).mono ?_
        rintro e8 w11 ⟨A5, c5, q, rfl, hs5, hq, hb11⟩
        have hbl := Below.next' hbl hb11 hbl.size
        have hql : q.length ≤ 1000000 := by
          rw [hq, nodeL_length]
          simp
          omega
        have HQ := Lib.hid hq
        clear hq hb11
        go_wp2_with fail
        refine (rsum_any A5 _ c5 q _ hs5 hql).mono ?_
        rw [HQ.out, HND.out]
        rintro e9 w12 ⟨rfl, hb12⟩
        have hbl := Below.next' hbl hb12 hbl.size
        clear hb12 hs5 hql HQ
        have hsg := hsg.below hbl
        have hh0 := HRH.out i 0 A' n' c' S w12 hsg (hsi.below hbl) (by omega)
        rw [show ((0 : Nat) : Int) = 0 from rfl] at hh0
        have HH0 := Lib.hid hh0
        have c0 := cell_below hbl c0
        clear hh0
        go_wp2_with fail
        refine HH0.out.mono ?_
        rintro e10 w13 ⟨v13, rfl, ho13, hb13⟩
        obtain ⟨A13, c13, rfl, hs13, _, _⟩ := ho13.forms
        have hi13 := ((hsi.below hbl).below hb13).half (d := i) (b := 0)
        have hbl := Below.next' hbl hb13 hbl.size
        have c0 := cell_below hb13 c0
        have hbw := Below.next' hb hbl hb.size
        clear ho13 hb13 HH0 hsg
        obtain ⟨pi, hpi⟩ : ∃ pi, pb.getD i false = pi := ⟨_, rfl⟩
        rw [hpi] at c0 HPI
        clear hpi
        rcases pi with _ | _
        · have hpi2 : pathI pb m (i + 1) = halfI (pathI pb m i) i 0 := HPI.out
          have HPI := Lib.hid hpi2
          clear hpi2
          have ht2 := HT2.out.1.below hbl
          go_wp2
          go_roundw
          case rel =>
            refine ⟨i + 1, _, A13, _, c13, hlt, by go_num, rfl, ?_, hs13, ?_, hbw⟩
            · rw [HPI.out, HF2.out]; exact ht2
            · rw [HPI.out]; exact hi13
          case measure => simp [intOf]; omega
        · have hpi2 : pathI pb m (i + 1) = halfI (pathI pb m i) i 1 := HPI.out
          have HPI := Lib.hid hpi2
          clear hpi2
          clear hs13 hi13
          go_wp2_with fail
          refine (HMA.out _ hbw).mono ?_
          rintro e14 w14 ⟨p14, sv14, S14, rfl, hp14, hso14, hsi14, hb14⟩
          obtain ⟨pq14, rfl⟩ := hp14.ptr
          obtain ⟨SA14, sc14, rfl, hsg14, _, _⟩ := hso14.forms
          have hbl := Below.next' hbl hb14 hbl.size
          have hbw := Below.next' hbw hb14 hbw.size
          clear hso14 hp14 hb14 c0
          go_wp2_with fail
          go_loopw [15, 16, 17] (fun ov kv _ w' => ∃ (k : Nat) (R : List ItS) (Ak : Option Addr) (nk ck : Nat), k ≤ i ∧ kv = .int .i64 (k : Int) ∧ ov = .slice Ak nk ck ∧ SegG itLay w' Ak nk R ∧ ItsAt w' R (pathI pb m k) ∧ Below wl.heap.size wl w') (fun _ kv _ _ => i - (intOf kv).toNat)
          case atStart => exact ⟨0, S14, SA14, S14.length, sc14, by omega, rfl, rfl, hsg14, hsi14, hbl⟩
          case round =>
            clear hsg14 hsi14 hbl hbw
            obtain ⟨k, R, Ak, nk, ck, hk, rfl, rfl, hsk, hik, hbl⟩ := hrel
            have hbw := Below.next' hb hbl hb.size
            rename World => wk
            by_cases hkl : k < i
            · obtain ⟨gp, op, hBe, c0⟩ := HPB.out wk hbw k (by omega)
              injection hBe with hBe
              injection hBe with hB1 hB2
              subst hB1 hB2
              rw [HPE.out k (by omega)] at c0
              have hpk := show pathI pb m (k + 1) = halfI (pathI pb m k) k (bitB (pb.getD k false)) from rfl
              obtain ⟨pk, hpkk⟩ : ∃ pk, pb.getD k false = pk := ⟨_, rfl⟩
              rw [hpkk] at c0 hpk
              clear hpkk
              have hh := HRH.out k (bitB pk) Ak nk ck R wk hsk hik (by omega)
              have HPK := Lib.hid hpk
              clear hpk
              rcases pk with _ | _
              · have hh : Calls Tryd.prog 37 #[.slice Ak nk ck, .int .i64 (k : Int), .int .i64 0] wk _ := hh
                have HH := Lib.hid hh
                clear hh
                go_wp2_with fail
                refine HH.out.mono ?_
                rintro e15 w15 ⟨v15, rfl, ho15, hb15⟩
                obtain ⟨A15, c15, rfl, hs15, _, _⟩ := ho15.forms
                have hi15 := (hik.below hb15).half (d := k) (b := 0)
                go_wp2
                go_roundw
                case rel => exact ⟨k + 1, _, A15, _, c15, hkl, by go_num, rfl, hs15, by rw [HPK.out]; exact hi15, Below.next' hbl hb15 hbl.size⟩
                case measure => simp [intOf]; omega
              · have hh : Calls Tryd.prog 37 #[.slice Ak nk ck, .int .i64 (k : Int), .int .i64 1] wk _ := hh
                have HH := Lib.hid hh
                clear hh
                go_wp2_with fail
                refine HH.out.mono ?_
                rintro e15 w15 ⟨v15, rfl, ho15, hb15⟩
                obtain ⟨A15, c15, rfl, hs15, _, _⟩ := ho15.forms
                have hi15 := (hik.below hb15).half (d := k) (b := 1)
                go_wp2
                go_roundw
                case rel => exact ⟨k + 1, _, A15, _, c15, hkl, by go_num, rfl, hs15, by rw [HPK.out]; exact hi15, Below.next' hbl hb15 hbl.size⟩
                case measure => simp [intOf]; omega
            · obtain rfl : k = i := by omega
              have hh := HRH.out k 1 Ak nk ck R wk hsk hik (by omega)
              rw [show ((1 : Nat) : Int) = 1 from rfl] at hh
              have HH := Lib.hid hh
              clear hh
              go_wp2_with fail
              refine HH.out.mono ?_
              rintro e15 w15 ⟨v15, rfl, ho15, hb15⟩
              obtain ⟨A15, c15, rfl, hs15, _, _⟩ := ho15.forms
              have hi15 := (hik.below hb15).half (d := k) (b := 1)
              have hbl := Below.next' hbl hb15 hbl.size
              have ht2 := HT2.out.2.below hbl
              have hbw := Below.next' hb hbl hb.size
              go_wp2
              go_roundw
              case rel =>
                refine ⟨k + 1, _, A15, _, c15, hlt, by go_num, rfl, ?_, hs15, ?_, hbw⟩
                · rw [HPI.out, HF2.out]; exact ht2
                · rw [HPI.out]; exact hi15
              case measure => simp [intOf]; omega
      · have hhs := fun W (h : Below wl.heap.size wl W) => thalves_small (256 - i) (pathI pb m i) i _ W (by omega) (HG.out i) (hp.below h) (by omega)
        have HHS := Lib.hid hhs
        have d1 : decide ((1 : Int) < (n' : Int)) = false := decide_eq_false (by omega)
        have hrow := HRW.out i
        have hgi := HG.out i
        have HTE := Lib.hid hp
        clear hhs hzT
        obtain ⟨r, hr⟩ : ∃ r, pathI pb m i = r := ⟨_, rfl⟩
        rw [hr] at hnl hp hsi h2 hrow hgi
        rcases r with _ | ⟨x, _ | ⟨y, r⟩⟩
        · obtain rfl : n' = 0 := hnl.symm
          have HLF := Lib.hid (fun W (h : Below wl.heap.size wl W) => tleaf_not (256 - i) [] i _ W (by omega) hgi (hp.below h) (by simp))
          clear hp hsi hsg hr hrow hgi hnl h2
          go_wp2_with fail
          refine (HHS.out _ (Below.refl _ _)).mono ?_
          rintro e1 w4 ⟨rfl, rfl⟩
          go_wp2_with fail
          refine (HLF.out _ (Below.refl _ _)).mono ?_
          rintro e2 w5 ⟨rfl, rfl⟩
          go_wp2_with fail
          refine (HTD.out _ (Below.refl _ _)).mono ?_
          rintro e3 w6 ⟨rfl, hb6⟩
          go_wp2_with fail
          refine (HDG.out _ hb6).mono ?_
          rintro e4 w7 ⟨rfl, hb7⟩
          have hbl := Below.next' hb6 hb7 hb6.size
          go_wp2
          go_ret
          exact ⟨rfl, Below.next' hb hbl hb.size⟩
        · obtain rfl : n' = 1 := hnl.symm
          obtain ⟨s, rfl⟩ : ∃ s, S = [s] := by
            rcases S with _ | ⟨s, _ | ⟨t, S⟩⟩
            · exact hsi.elim
            · exact ⟨s, rfl⟩
            · exact hsi.2.elim
          have hit := hsi.1
          obtain ⟨g, o, rfl, hc⟩ := hsg.at_ (k := 0) (by omega)
          have x0 := hc 0 (.string s.s) rfl
          have x1 := hc 1 (.slice s.A s.n s.c) rfl
          rw [hit.1] at x0
          simp only [Nat.zero_mul, Nat.add_zero] at x0 x1
          have hsr := hit.2.1
          have hsc := hit.2.2
          have hrl := hrow x (List.mem_cons_self ..)
          rw [tree_one] at hp
          have hlf := tleaf_any x.1 x.2 _ wl hp
          obtain ⟨xu, xl⟩ := x
          obtain ⟨es, eA, en, ec⟩ := s
          dsimp only at x0 x1 hsr hsc hrl hlf
          obtain ⟨KU, hKU⟩ : ∃ KU, keyOf xu = KU := ⟨_, rfl⟩
          rw [hKU] at x0 hlf
          have HLF := Lib.hid hlf
          have hkk : (KU.toList == KU.toList) = true := by simp
          have hen : en = xl.length := hsr.1.symm
          clear hp hsi hsg hr hrow hgi hnl h2 hc hit hKU hlf
          subst hen
          obtain ⟨q, hq⟩ : ∃ q, xl.length = q := ⟨_, rfl⟩
          rw [hq] at x1 hsr hsc hrl
          have HQ := Lib.hid hq
          clear hq
          go_wp2_with fail
          refine (HHS.out _ (Below.refl _ _)).mono ?_
          rintro e1 w4 ⟨rfl, rfl⟩
          go_wp2_with fail
          refine HLF.out.mono ?_
          rintro e2 w5 ⟨rv, rfl, hro, hb5⟩
          obtain ⟨Ar, cr, rfl, hsq, _, _⟩ := hro.formsn q HQ.out
          have hbl := hb5
          clear hro hb5
          go_wp2_with fail
          refine (HTD.out _ hbl).mono ?_
          rintro e3 w6 ⟨rfl, hb6⟩
          have hsq := hsq.below hb6
          have hbl := Below.next' hbl hb6 hbl.size
          clear hb6
          go_wp2_with fail
          refine (HDG.out _ hbl).mono ?_
          rintro e4 w7 ⟨rfl, hb7⟩
          have hsq := hsq.below hb7
          have hbl := Below.next' hbl hb7 hbl.size
          have x0 := cell_below hbl x0
          have x1 := cell_below hbl x1
          have hsr := hsr.below hbl
          have hbw := Below.next' hb hbl hb.size
          clear hb7
          go_wp2_with fail
          refine (bytes_any Ar eA q q cr ec xl xl _ hsq hsr (by simp only [maxLen]; omega)).mono ?_
          rintro e5 w8 ⟨rfl, u, rfl⟩
          rw [show (xl == xl) = true by simp]
          go_wp2
          go_ret
          exact ⟨rfl, Below.drewN' hbw u⟩
        · simp at h2
    · clear hp hsg hsi
      have d1 : decide ((i : Int) < (np : Int)) = false := decide_eq_false (by omega)
      go_wp2
      go_ret
      exact ⟨rfl, hb⟩

set_option maxRecDepth 8000 in
set_option maxHeartbeats 4000000 in
theorem trieHalves_long (A : Option Addr) (n c : Nat) (L : List TAct) (B : Option Addr) (np cp : Nat) (w : World) (ha : SegTA w A n L) (hnc : n ≤ c) (hcm : c ≤ maxLen) (h : ¬ SmallA 40 L ∨ 60 < np) (ht : Tab w) :
    Calls Tryd.prog 6 #[.slice A n c, .slice B np cp] w fun e w' => e = .returned (.bool true) ∧ Below w.heap.size w w' := by
  by_cases hs : SmallA 40 L
  · have d60 : decide ((60 : Int) < (np : Int)) = true := decide_eq_true (by have h1 : 60 < np := h.resolve_left (fun h => h hs); omega)
    have HSM := Lib.hid (fun W (h : Below w.heap.size w W) => small09_any A n c L true W (ha.below h) hcm hnc ⟨fun _ => hs, fun _ => rfl⟩)
    clear ha h hs
    go_enter Tryd.func6, Tryd.ntmps6
    go_wp2_with fail
    refine (back_any _ ht).mono ?_
    rintro e w1 ⟨rfl, hb1⟩
    go_wp2_with fail
    refine (HSM.out _ hb1).mono ?_
    rintro e w2 ⟨rfl, rfl⟩
    go_wp2_with fail
    refine (back_any _ (Tab.below ht hb1)).mono ?_
    rintro e w3 ⟨rfl, hb3⟩
    go_wp2
    go_ret
    exact ⟨rfl, Below.next' hb1 hb3 hb1.size⟩
  · have HSM := Lib.hid (fun W (h : Below w.heap.size w W) => small09_any A n c L false W (ha.below h) hcm hnc ⟨fun h => Bool.noConfusion h, fun h => absurd h hs⟩)
    clear ha h hs
    go_enter Tryd.func6, Tryd.ntmps6
    go_wp2_with fail
    refine (back_any _ ht).mono ?_
    rintro e w1 ⟨rfl, hb1⟩
    go_wp2_with fail
    refine (HSM.out _ hb1).mono ?_
    rintro e w2 ⟨rfl, rfl⟩
    go_wp2_with fail
    refine (back_any _ (Tab.below ht hb1)).mono ?_
    rintro e w3 ⟨rfl, hb3⟩
    go_wp2
    go_ret
    exact ⟨rfl, Below.next' hb1 hb3 hb1.size⟩

theorem trieHalves_walk (A : Option Addr) (n c : Nat) (L : List TAct) (B : Option Addr) (np cp : Nat) (pb : List Bool) (w : World) (ha : SegTA w A n L) (hnc : n ≤ c) (hcm : c ≤ maxLen) (hp : SegG boolLay w B np pb) (hpc : np ≤ cp) (_ : cp ≤ maxLen) (ht : Tab w) :
    Calls Tryd.prog 6 #[.slice A n c, .slice B np cp] w fun e w' => e = .returned (.bool true) ∧ Below w.heap.size w w' := by
  by_cases h : SmallA 40 L ∧ np ≤ 60
  · exact trieHalves_core A n c L B np cp pb w ha hnc hcm hp hpc h.1 h.2 ht
  · refine trieHalves_long A n c L B np cp w ha hnc hcm ?_ ht
    by_cases h1 : SmallA 40 L
    · exact .inr (by have : ¬ np ≤ 60 := fun h2 => h ⟨h1, h2⟩; omega)
    · exact .inl h1

end Go.Proofs.YtpbjianhkjjgkaaDoor
