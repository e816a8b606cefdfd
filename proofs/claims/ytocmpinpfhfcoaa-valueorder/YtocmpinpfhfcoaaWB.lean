/-
  The walks of what reads keys back.
-/
import Derived.Test.YtocmpinpfhfcoaaPureB
import Derived.Deep.DeepCutAuto
namespace Go.Proofs.Ytocmpinpfhfcoaa
open Go.RowKit

/-- What a call answers that reads one value of a key. -/
def Bk3 (w : World) (res : Option (V × List UInt8)) (A : Option Addr) (n : Nat) (l : List UInt8) (e : Ending) (w' : World) : Prop :=
  ∃ (x : V) (A' : Option Addr) (n' c' : Nat), e = .returned (.tuple #[.agg #[.int .u8 x.k, .int .i64 x.n, .string x.s], .slice A' n' c', .bool res.isSome]) ∧
    (∀ v r, res = some (v, r) → x = v ∧ (∀ W, Seg W A n l → Seg W A' n' r) ∧ n' ≤ c' ∧ c' ≤ maxLen) ∧ Below w.heap.size w w'

theorem Bk3.no {w w' : World} {A : Option Addr} {n : Nat} {l : List UInt8} (x : V) (A' : Option Addr) (n' c' : Nat) (hb : Below w.heap.size w w') :
    Bk3 w none A n l (.returned (.tuple #[.agg #[.int .u8 x.k, .int .i64 x.n, .string x.s], .slice A' n' c', .bool false])) w' :=
  ⟨x, A', n', c', rfl, (fun v r h => by cases h), hb⟩
theorem Bk3.yes {w w' : World} {A : Option Addr} {n : Nat} {l : List UInt8} (x : V) (r : List UInt8) (A' : Option Addr) (n' c' : Nat) (hs : ∀ W, Seg W A n l → Seg W A' n' r) (h1 : n' ≤ c') (h2 : c' ≤ maxLen) (hb : Below w.heap.size w w') :
    Bk3 w (some (x, r)) A n l (.returned (.tuple #[.agg #[.int .u8 x.k, .int .i64 x.n, .string x.s], .slice A' n' c', .bool true])) w' :=
  ⟨x, A', n', c', rfl, fun v r' h => by
    injection h with h
    injection h with e1 e2
    subst e1 e2
    exact ⟨rfl, hs, h1, h2⟩, hb⟩

theorem xor_twice : ∀ a, a < 256 → (a ^^^ 128) ^^^ 128 = a := by decide +kernel
/-- The bytes of a number in a key, their highest bit turned, are those of the number. -/
theorem turned (b : UInt8) (p : List UInt8) (hp : p.length = 7) : dec (1 :: (b ^^^ 128) :: p) = (⟨1, unNum (b :: p), ⟨#[]⟩⟩, 9, 0) := by
  obtain ⟨e, h1, h2⟩ := key_unNum (b :: p) (by simp [hp])
  generalize unNum (b :: p) = n at *
  rw [keyNum_eq] at e
  injection e with e1 e2
  have hv : V.Ok ⟨1, n, ⟨#[]⟩⟩ := .inr (.inl ⟨rfl, rfl, h1, h2⟩)
  have hd := dec_enc ⟨1, n, ⟨#[]⟩⟩ [] hv
  rw [List.append_nil, enc_int] at hd
  have hb : b ^^^ 128 = UInt8.ofNat (u64N n / 2 ^ (8 * 7)) := by
    rw [← e1]
    apply UInt8.toNat_inj.1
    rw [UInt8.toNat_xor, UInt8.toNat_xor]
    exact xor_twice _ (byte_lt _)
  have e8 : high (u64N n) 8 = (b ^^^ 128) :: p := by rw [hb, ← e2]; rfl
  rw [e8] at hd
  rw [hd]
  simp [hp]

/-- A row of the call's own whose second byte is written over. -/
theorem own_turn {w1 : World} {B : Nat} {v1 : Value} {a b : UInt8} {p : List UInt8} (ho : Own w1 B 5 v1 (a :: b :: p)) :
    ∃ g cap, v1 = .slice (some ⟨g, 0, none⟩) (p.length + 2) cap ∧ B ≤ g ∧ g < w1.heap.size ∧ w1.cell? ⟨g, 1, none⟩ = some (.int .u8 (b.toNat : Int)) ∧ w1.frozen? ⟨g, 1, none⟩ = false ∧ p.length + 2 ≤ cap ∧ cap ≤ maxLen ∧
      ∀ c : UInt8, Seg (w1.setCell ⟨g, 1, none⟩ (.int .u8 (c.toNat : Int))) (some ⟨g, 0, none⟩) (p.length + 2) (a :: c :: p) := by
  rcases hh : ho.2 with ⟨_, hz⟩ | ⟨g, cap, cur, e, hb, hg, h3, h4, h5, h6⟩
  · simp at hz
  · subst e
    have hown : w1.ownsRow B 5 1 (.slice (some ⟨g, 0, none⟩) (a :: b :: p).length cap) (a :: b :: p).length (cellsB (a :: b :: p)) := ho
    have hc1 : w1.cell? ⟨g, 1, none⟩ = some (.int .u8 (b.toNat : Int)) := hown.cellAt 1 (by simp)
    refine ⟨g, cap, rfl, hb, World.block_lt_of_cell? w1 _ hc1, hc1, hown.frozenAt 1, h3, h4, fun c => ?_⟩
    have hst := (hown.stored 1 (.int .u8 (c.toNat : Int))).1
    have h9 : Own (w1.setCell ⟨g, 1, none⟩ (.int .u8 (c.toNat : Int))) B 5 (.slice (some ⟨g, 0, none⟩) (a :: b :: p).length cap) (a :: c :: p) := hst
    obtain ⟨A9, c9, e9, hs9, _, _⟩ := h9.forms
    injection e9 with e9a
    rw [e9a]
    exact hs9

theorem back1_3 (l : List UInt8) : back1 3 l = match unText l with | some (s, r) => if s.length ≤ 200 then some (⟨2, 0, ⟨s.toArray⟩⟩, r) else none | none => none := rfl

theorem unText_short (l : List UInt8) (h : l.length ≤ 1) : unText l = none := by
  match l, h with
  | [], _ => rfl
  | [_], _ => rfl

end Go.Proofs.Ytocmpinpfhfcoaa
