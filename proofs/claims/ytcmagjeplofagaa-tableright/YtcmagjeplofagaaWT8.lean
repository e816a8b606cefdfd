/-
  The walks of KeyOf, and of the document's Fit.
-/
import Derived.Test.YtcmagjeplofagaaWT7
namespace Go.Proofs.Ytcmagjeplofagaa
open Go.RowKit

set_option maxHeartbeats 1000000 in
theorem keyOf_any (A B : Option Addr) (n m c d : Nat) (L : List Tbl) (vs : List V) (t : Nat) (w : World) (ha : SegT w A n L) (hb : SegV w B m vs) (hmd : m ≤ d) (_ : d ≤ maxLen) (hm : m ≤ 1000) (hn : n ≤ 100) (ht : t < n)
    (hk0 : 0 ≤ (L[t]'(by rw [ha.len]; exact ht)).k) (hk1 : (L[t]'(by rw [ha.len]; exact ht)).k ≤ (m : Int)) (hok : ∀ v ∈ vs, v.Ok) :
    Calls Try.prog 34 #[.slice A n c, .int .i64 (t : Int), .slice B m d] w fun e w' => e = .returned (.string (keyT t (vs.take (L[t]'(by rw [ha.len]; exact ht)).k.toNat))) ∧ Below w.heap.size w w' := by
  obtain ⟨g, o, B', m', c', rfl, h0, h1, h2, hs, _, _⟩ := SegT.at_ ha ht
  have ht' : (t : Int) < (n : Int) := by omega
  generalize L[t]'(by rw [ha.len]; exact ht) = x at *
  obtain ⟨k, hk⟩ : ∃ k : Nat, x.k = (k : Int) := ⟨x.k.toNat, by omega⟩
  rw [hk] at h2 hk0 hk1 ⊢
  have hkm : k ≤ m := by omega
  have hkd : (k : Int) ≤ (d : Int) := by omega
  have hk2 := hb.upto k hkm
  rw [Int.toNat_natCast]
  clear hk
  go_enter Try.func34, Try.ntmps34
  go_wp2_with fail
  refine (isTable_any _ n c t true _ (by simp; omega)).mono ?_
  rintro e w' ⟨rfl, rfl⟩
  go_wp2_with fail
  refine (atMost_any (k : Int) m _ hk0 hk1).mono ?_
  rintro e w' ⟨rfl, rfl⟩
  go_wp2_with fail
  refine (tkey_any t B k d (vs.take k) _ (by omega) hk2 (by omega) (fun v hv => hok v (List.mem_of_mem_take hv))).mono ?_
  rintro e w1 ⟨rfl, hb1⟩
  go_wp2
  go_ret
  exact ⟨rfl, hb1⟩

def fitTxt (b : Nat) : ByteArray := ⟨(([0, 97, 98, 255] : List UInt8).take (b % 4)).toArray⟩
def fitOne (c : Col) (b : Nat) : V := if c.b = true ∧ b % 4 = 3 then V.none else if c.k = 1 then ⟨1, ((b % 8 : Nat) : Int) - 2, ⟨#[]⟩⟩ else ⟨2, 0, fitTxt b⟩
def at0 (l : List UInt8) (k : Nat) : Nat := (l[k]?.getD 0).toNat
theorem at0_lt (l : List UInt8) (k : Nat) : at0 l k < 256 := byte_lt _
def fitVals : List Col → List UInt8 → Nat → List V
  | [], _, _ => []
  | c :: cs, l, k => fitOne c (at0 l k) :: fitVals cs l (k + 1)
theorem fitVals_append (cs ds : List Col) (l : List UInt8) : ∀ k, fitVals (cs ++ ds) l k = fitVals cs l k ++ fitVals ds l (k + cs.length) := by
  induction cs with
  | nil => intro k; rfl
  | cons c cs ih =>
    intro k
    rw [List.cons_append, fitVals, fitVals, ih, List.cons_append, List.length_cons]
    congr 3
    omega
theorem fitVals_snoc (cs : List Col) (l : List UInt8) (k : Nat) (h : k < cs.length) : fitVals (cs.take (k + 1)) l 0 = fitVals (cs.take k) l 0 ++ [fitOne cs[k] (at0 l k)] := by
  rw [List.take_succ_eq_append_getElem h, fitVals_append]
  have : (cs.take k).length = k := by rw [List.length_take]; omega
  rw [this, Nat.zero_add]
  rfl
theorem fitVals_length (cs : List Col) (l : List UInt8) : ∀ k, (fitVals cs l k).length = cs.length := by
  induction cs with
  | nil => intro k; rfl
  | cons c cs ih => intro k; rw [fitVals, List.length_cons, ih, List.length_cons]
theorem fitTxt_size (b : Nat) : (fitTxt b).size ≤ 200 := by
  have : (fitTxt b).size = (fitTxt b).data.toList.length := by simp
  rw [this]
  unfold fitTxt
  simp
  omega
theorem fitOne_ok (c : Col) (b : Nat) : (fitOne c b).Ok := by
  unfold fitOne
  split
  · exact .inl ⟨rfl, rfl, rfl⟩
  · split
    · exact .inr (.inl ⟨rfl, rfl, by show -9223372036854775808 ≤ ((b % 8 : Nat) : Int) - 2; omega, by show ((b % 8 : Nat) : Int) - 2 ≤ 9223372036854775807; omega⟩)
    · exact .inr (.inr ⟨rfl, rfl, fitTxt_size b⟩)
theorem fitVals_ok (cs : List Col) (l : List UInt8) : ∀ k, ∀ v ∈ fitVals cs l k, v.Ok := by
  induction cs with
  | nil => intro k v hv; cases hv
  | cons c cs ih =>
    intro k v hv
    rw [fitVals, List.mem_cons] at hv
    rcases hv with rfl | hv
    · exact fitOne_ok _ _
    · exact ih _ v hv
theorem fitOne_allow (c : Col) (b : Nat) (h : c.k = 1 ∨ c.k = 2) : allowB c (fitOne c b) = true := by
  unfold fitOne
  split
  · rename_i h1
    unfold allowB V.none
    simp [h1.1]
  · split
    · rename_i h2
      unfold allowB
      simp [h2]
    · rename_i h2
      unfold allowB
      rcases h with h | h
      · exact absurd h h2
      · simp [h]
theorem fitGo_fit (cs : List Col) (l : List UInt8) (h : ∀ c ∈ cs, c.k = 1 ∨ c.k = 2) : ∀ k, fitGo cs (fitVals cs l k) = 0 := by
  induction cs with
  | nil => intro k; rfl
  | cons c cs ih =>
    intro k
    rw [fitVals, fitGo, if_pos (V.okB_of (fitOne_ok _ _)), if_pos (fitOne_allow c _ (h c (by simp))), ih fun x hx => h x (by simp [hx])]
theorem fitL_fit (cs : List Col) (l : List UInt8) (h : ∀ c ∈ cs, c.k = 1 ∨ c.k = 2) : fitL cs (fitVals cs l 0) = 0 := by
  unfold fitL
  rw [if_pos (fitVals_length cs l 0), fitGo_fit cs l h]

end Go.Proofs.Ytcmagjeplofagaa
