/-
  Rows as bytes: what Pack answers, and what Unpack makes of any bytes, as functions on lists.
-/
import Derived.Test.YtcmagjeplofagaaPure4
import Derived.Test.YtcmagjeplofagaaPure3
namespace Go.Proofs.Ytcmagjeplofagaa

def encL (l : List V) : List UInt8 := l.flatMap enc
def packL (l : List V) : List UInt8 := UInt8.ofNat l.length :: encL l

theorem encL_take (l : List V) (k : Nat) (h : k < l.length) : encL (l.take (k + 1)) = encL (l.take k) ++ enc l[k] := by
  unfold encL
  rw [List.take_succ_eq_append_getElem h, List.flatMap_append, List.flatMap_cons, List.flatMap_nil, List.append_nil]
theorem encL_len (l : List V) (h : ∀ x ∈ l, x.Ok) : (encL l).length ≤ 1000 * l.length := by
  induction l with
  | nil => simp [encL]
  | cons v l ih =>
    have h1 := enc_le v (h v (by simp))
    have h2 := ih fun x hx => h x (by simp [hx])
    show (enc v ++ encL l).length ≤ _
    rw [List.length_append, List.length_cons]
    omega

/-- So many values are read, one behind the other; nothing may be left. -/
def unpA (d : List V) : Nat → List UInt8 → List V × Int
  | 0, r => if r.length = 0 then (d, 0) else ([], 2)
  | k + 1, r => if (dec r).2.2 = 0 then unpA (d ++ [(dec r).1]) k (r.drop (dec r).2.1) else ([], (dec r).2.2)
def unpackL : List UInt8 → List V × Int
  | [] => ([], 3)
  | b :: r => unpA [] b.toNat r

theorem unpA_end (d : List V) (r : List UInt8) (h : r.length = 0) : unpA d 0 r = (d, 0) := by simp [unpA, h]
theorem unpA_more (d : List V) (r : List UInt8) (h : r.length ≠ 0) : unpA d 0 r = ([], 2) := by simp [unpA, h]
theorem unpA_go (d : List V) (k : Nat) (r : List UInt8) (h : (dec r).2.2 = 0) : unpA d (k + 1) r = unpA (d ++ [(dec r).1]) k (r.drop (dec r).2.1) := by rw [unpA, if_pos h]
theorem unpA_err (d : List V) (k : Nat) (r : List UInt8) (h : (dec r).2.2 ≠ 0) : unpA d (k + 1) r = ([], (dec r).2.2) := by rw [unpA, if_neg h]

theorem unpA_enc (l : List V) (h : ∀ x ∈ l, x.Ok) : ∀ d, unpA d l.length (encL l) = (d ++ l, 0) := by
  induction l with
  | nil => intro d; simp [encL, unpA]
  | cons v l ih =>
    intro d
    have hv := h v (by simp)
    have e : encL (v :: l) = enc v ++ encL l := rfl
    have hd := dec_enc v (encL l) hv
    rw [List.length_cons, e, unpA_go _ _ _ (by rw [hd])]
    rw [hd]
    simp only
    rw [List.drop_left, ih fun x hx => h x (by simp [hx])]
    simp
theorem unpack_pack (l : List V) (h : ∀ x ∈ l, x.Ok) (hl : l.length ≤ 255) : unpackL (packL l) = (l, 0) := by
  unfold packL unpackL
  simp only
  have : (UInt8.ofNat l.length).toNat = l.length := by simp; omega
  rw [this, unpA_enc l h]
  simp
theorem dec_err_kind (p : List UInt8) : (dec p).2.2 = 0 ∨ (dec p).2.2 = 2 ∨ (dec p).2.2 = 3 := by
  rcases p with _ | ⟨b, p⟩
  · right; right; rfl
  · show (decKind b p).2.2 = 0 ∨ (decKind b p).2.2 = 2 ∨ (decKind b p).2.2 = 3
    unfold decKind decNum decText
    repeat' split
    all_goals simp
end Go.Proofs.Ytcmagjeplofagaa
