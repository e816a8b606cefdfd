/-
  The laws' own example of a chain, and the walks of ChainNil and ChainOwn.
-/
import Derived.Test.YtandlkflnfiikaaCH5
import Derived.Test.YtandlkflnfiikaaCH6
import Derived.Test.YtandlkflnfiikaaCH7
import Derived.Test.YtandlkflnfiikaaMemR
namespace Go.Proofs.Ytandlkflnfiikaa
open Go.RowKit

theorem Ch.belows {a w w' : World} {C B g : Nat} {v : Value} {S : List VerS} {L : List Ver} {last : Int} (h : Ch w B g v S L last) (h0 : Below C a w) (ho : Only w w' (DkS g v)) (hB : C ≤ B) : Below C a w' :=
  ho.below h0 (fun k hk => Nat.le_trans hB (h.ge k (.inl hk))) (Nat.le_trans hB (Nat.le_trans (h.ge g (.inl (.inl rfl))) (Nat.le_of_lt (h.lt g (.inl (.inl rfl))))))
theorem Ch.mono {w : World} {B b g : Nat} {v : Value} {S : List VerS} {L : List Ver} {last : Int} (h : Ch w B g v S L last) (hb : b ≤ B) : Ch w b g v S L last :=
  ⟨h.h0, h.h1, h.fr, h.own.mono hb, h.rows, h.ap, Nat.le_trans hb h.hB, fun k hk => ⟨(h.off k hk).1, Nat.le_trans hb (h.off k hk).2⟩, h.asc, h.h3⟩
theorem ChS.nil {g k : Nat} (h : ChS g (.slice none 0 0) [] k) : k = g := by
  rcases h with (h | h) | ⟨s, hs, _⟩
  · exact h
  · cases h
  · simp at hs

set_option maxHeartbeats 4000000 in
theorem gone_any (w : World) :
    Calls Try.prog 9 #[] w fun e w' => e = .returned (.bool true) ∧ Below w.heap.size w w' := by
  have g2 : getV [⟨1, [97], false⟩, ⟨3, [], true⟩] 2 = ([97], true) := by decide
  have g3 : getV [⟨1, [97], false⟩, ⟨3, [], true⟩] 3 = ([], false) := by decide
  have t3 : trimN [⟨1, [97], false⟩, ⟨3, [], true⟩] 3 = 2 := by decide
  have G2 := Lib.hid g2
  have G3 := Lib.hid g3
  have T3 := Lib.hid t3
  clear g2 g3 t3
  go_enter Try.func9, Try.ntmps9
  go_wp2_with fail
  refine (cnew_any _).mono ?_
  rintro e w1 ⟨g, rfl, h1, hb1, hgw⟩
  clear hgw
  have kc := Lib.run_convert_bytes_const (P := Try.prog) w1 29 5 #[.int .u8 97] 1 1 Try.underlying29 Try.underlying5
  go_wp2_with fail
  have ha1 : Below w1.heap.size w1 (w1.alloc (.cells #[.int .u8 97] 5 (1, 2))) := (Below.refl _ _).alloc (Nat.le_refl _) _
  have hba := Below.next' hb1 ha1 hb1.size
  refine (cput_ok (h1.below ha1) (by simp) 1 (by omega) _ 1 1 [97] false (Seg.newF w1 [97] _ _ _ _ rfl rfl) (by omega)).mono ?_
  rintro e w2 ⟨rfl, v2, S2, h2, ho2, _⟩
  have hb2 := (h1.below ha1).belows hba ho2 (Nat.le_refl _)
  rw [show [] ++ [strip ⟨1, [97], false⟩] = [⟨1, [97], false⟩] from rfl] at h2
  clear h1 ha1 hba ho2 hb1 kc
  go_wp2_with fail
  refine (cput_ok h2 (by simp) 3 (by omega) none 0 0 [] true (Seg.nil _ _) (by omega)).mono ?_
  rintro e w3 ⟨rfl, v3, S3, h3, ho3, _⟩
  have hb3 := h2.belows hb2 ho3 (Nat.le_refl _)
  rw [show [⟨1, [97], false⟩] ++ [strip ⟨3, [], true⟩] = [⟨1, [97], false⟩, ⟨3, [], true⟩] from rfl] at h3
  clear h2 hb2 ho3
  go_wp2_with fail
  refine (cget_any h3 (by simp) (by simp) 2).mono ?_
  rw [G2.out]
  rintro e w4 ⟨v4, rfl, ho4, hb4⟩
  have h4 := h3.below hb4
  have hbw4 := Below.next' hb3 hb4 hb3.size
  obtain ⟨A4, c4, rfl, hs4, _, _⟩ := ho4.forms
  clear h3 hb3 hb4 ho4
  go_wp2_with fail
  refine (cget_any h4 (by simp) (by simp) 3).mono ?_
  rw [G3.out]
  rintro e w5 ⟨v5, rfl, ho5, hb5⟩
  have h5 := h4.below hb5
  have hbw5 := Below.next' hbw4 hb5 hbw4.size
  have hs5 := hs4.below hb5
  clear h4 hbw4 hb5 ho5 hs4
  have kc := Lib.run_convert_bytes_const (P := Try.prog) w5 29 5 #[.int .u8 97] 1 1 Try.underlying29 Try.underlying5
  go_wp2_with fail
  have ha5 : Below w5.heap.size w5 (w5.alloc (.cells #[.int .u8 97] 5 (1, 2))) := (Below.refl _ _).alloc (Nat.le_refl _) _
  refine (bytes_any A4 _ 1 1 c4 1 [97] [97] _ (hs5.below ha5) (Seg.newF w5 [97] _ _ _ _ rfl rfl) (by simp [maxLen])).mono ?_
  rintro e w6 ⟨rfl, u, rfl⟩
  have h6 := (h5.below ha5).drewN u
  have hbw6 := Below.drewP (Below.next' hbw5 ha5 hbw5.size) u
  rw [show (([97] : List UInt8) == [97]) = true from rfl]
  clear h5 hbw5 hs5 ha5 kc
  generalize (w5.alloc (.cells #[.int .u8 97] 5 (1, 2))).drewN u = w6 at *
  go_wp2_with fail
  refine (ctrim_any h6 (by simp) 3).mono ?_
  rw [T3.out]
  rintro e w7 ⟨rfl, v7, h7, ho7, _⟩
  have hbw7 := h6.belows hbw6 ho7 (Nat.le_refl _)
  go_wp2
  go_ret
  exact ⟨rfl, hbw7⟩

set_option maxHeartbeats 2000000 in
theorem chainNil_walk (t : Int) (w : World) (_ : (Lit.int .i64 t).wf = true) :
    Calls Try.prog 7 #[.int .i64 t] w fun e w' => e = .returned (.bool true) ∧ Below w.heap.size w w' := by
  go_enter Try.func7, Try.ntmps7
  go_wp2_with fail
  refine (cnil_get _ _).mono ?_
  rintro e w1 ⟨rfl, rfl⟩
  go_wp2_with fail
  refine (gone_any _).mono ?_
  rintro e w2 ⟨rfl, hb2⟩
  go_wp2_with fail
  refine (cnil_put _ _ _ _).mono ?_
  rintro e w3 ⟨rfl, rfl⟩
  go_wp2_with fail
  refine (cnil_last _).mono ?_
  rintro e w3 ⟨rfl, rfl⟩
  go_wp2_with fail
  refine (cnil_trim _ _).mono ?_
  rintro e w3 ⟨rfl, rfl⟩
  go_wp2_with fail
  refine (cnil_len _).mono ?_
  rintro e w3 ⟨rfl, rfl⟩
  go_wp2
  go_ret
  exact ⟨rfl, hb2⟩

end Go.Proofs.Ytandlkflnfiikaa
