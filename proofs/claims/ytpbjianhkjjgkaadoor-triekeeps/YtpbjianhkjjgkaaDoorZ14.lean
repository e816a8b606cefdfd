/-
  Texts of one claim, joined.
-/
import Derived.Test.YtpbjianhkjjgkaaDoorZ01
import Derived.Test.YtpbjianhkjjgkaaDoorZ09
import Derived.Test.YtpbjianhkjjgkaaDoorZ0A
import Derived.Test.YtpbjianhkjjgkaaDoorZ13
namespace Go.Proofs.YtpbjianhkjjgkaaDoor
open Go.RowKit

/-- A proof. -/
structure Pf where
  side : List ByteArray
  k : Nat
  key : ByteArray
  row : List UInt8
def Pf.none : Pf := ⟨[], 0, ⟨#[]⟩, []⟩

/-- What is left to be read, and the error. -/
abbrev Rst := List UInt8 × Nat
def ptk (s : Rst) (n : Nat) : List UInt8 × Rst :=
  if s.2 ≠ 0 then ([], s) else if s.1.length < n then ([], (s.1, 3)) else (s.1.take n, (s.1.drop n, 0))
def pnb (s : Rst) (z m : Nat) : Nat × Rst :=
  if m < rdN (ptk s z).1 then (0, ((ptk s z).2.1, 2)) else (rdN (ptk s z).1, (ptk s z).2)
def ptx (s : Rst) : List UInt8 × Rst := ptk (pnb s 2 4000).2 (pnb s 2 4000).1
def psd (s : Rst) : Nat → List ByteArray × Rst
  | 0 => ([], s)
  | k + 1 => ((psd s k).1 ++ [⟨(ptk (psd s k).2 32).1.toArray⟩], (ptk (psd s k).2 32).2)
def psides (s : Rst) : List ByteArray × Rst := psd (pnb s 2 256).2 (pnb s 2 256).1
def ppf (s : Rst) : Pf × Rst :=
  if (pnb (psides s).2 1 2).1 = 2 then
    (⟨(psides s).1, 2, ⟨(ptx (pnb (psides s).2 1 2).2).1.toArray⟩, (ptx (ptx (pnb (psides s).2 1 2).2).2).1⟩, (ptx (ptx (pnb (psides s).2 1 2).2).2).2)
  else if (pnb (psides s).2 1 2).1 = 1 then
    (⟨(psides s).1, 1, ⟨#[]⟩, (ptx (pnb (psides s).2 1 2).2).1⟩, (ptx (pnb (psides s).2 1 2).2).2)
  else (⟨(psides s).1, (pnb (psides s).2 1 2).1, ⟨#[]⟩, []⟩, (pnb (psides s).2 1 2).2)
def pend (s : Rst) : Rst := if s.2 = 0 ∧ 0 < s.1.length then (s.1, 2) else s
/-- What bytes are read as, and the error's number. -/
def pdec (q : List UInt8) : Pf × Nat :=
  if (pend (ppf (q, 0)).2).2 = 0 then ((ppf (q, 0)).1, 0) else (Pf.none, (pend (ppf (q, 0)).2).2)

theorem ptk_err {s : Rst} (h : s.2 ≠ 0) (n : Nat) : ptk s n = ([], s) := by unfold ptk; rw [if_pos h]
theorem ptk_short {l : List UInt8} {n : Nat} (h : l.length < n) : ptk (l, 0) n = ([], (l, 3)) := by unfold ptk; rw [if_neg (by simp), if_pos h]
theorem ptk_ok {l : List UInt8} {n : Nat} (h : n ≤ l.length) : ptk (l, 0) n = (l.take n, (l.drop n, 0)) := by unfold ptk; rw [if_neg (by simp), if_neg (by simp; omega)]
theorem ptk_len (s : Rst) (n : Nat) : (ptk s n).1.length ≤ n := by
  unfold ptk
  split
  · simp
  · split
    · simp
    · simp; omega
theorem pnb_err {s : Rst} (h : s.2 ≠ 0) (z m : Nat) : pnb s z m = (0, s) := by
  unfold pnb
  rw [ptk_err h]
  simp [rdN]
theorem pnb_short {l : List UInt8} {z : Nat} (h : l.length < z) (m : Nat) : pnb (l, 0) z m = (0, (l, 3)) := by
  unfold pnb
  rw [ptk_short h]
  simp [rdN]
theorem pnb_big {l : List UInt8} {z m : Nat} (h : z ≤ l.length) (hm : m < rdN (l.take z)) : pnb (l, 0) z m = (0, (l.drop z, 2)) := by
  unfold pnb
  rw [ptk_ok h, if_pos hm]
theorem pnb_ok {l : List UInt8} {z m : Nat} (h : z ≤ l.length) (hm : rdN (l.take z) ≤ m) : pnb (l, 0) z m = (rdN (l.take z), (l.drop z, 0)) := by
  unfold pnb
  rw [ptk_ok h, if_neg (by simp; omega)]
theorem pnb_le (s : Rst) (z m : Nat) : (pnb s z m).1 ≤ m := by
  unfold pnb
  split
  · exact Nat.zero_le _
  · simp_all
theorem ptx_err {s : Rst} (h : s.2 ≠ 0) : ptx s = ([], s) := by
  unfold ptx
  rw [pnb_err h, ptk_err h]
theorem psd_err {s : Rst} (h : s.2 ≠ 0) (k : Nat) : (psd s k).2 = s := by
  induction k with
  | zero => rfl
  | succ k ih => rw [psd, ih, ptk_err h]
theorem psd_stay (s : Rst) {i : Nat} (h : (psd s i).2.2 ≠ 0) : ∀ j, i ≤ j → (psd s j).2 = (psd s i).2 := by
  intro j hj
  induction j with
  | zero =>
    obtain rfl : i = 0 := by omega
    rfl
  | succ j ih =>
    by_cases e : i = j + 1
    · subst e; rfl
    · have := ih (by omega)
      rw [psd, this, ptk_err h]
theorem ppf_err {s : Rst} (h : (psides s).2.2 ≠ 0) : (ppf s).2 = (psides s).2 := by
  unfold ppf
  rw [pnb_err h]
  rfl
theorem pdec_err {q : List UInt8} {x : Nat} (h : (ppf (q, 0)).2.2 = x) (hx : x ≠ 0) : pdec q = (Pf.none, x) := by
  have e : pend (ppf (q, 0)).2 = (ppf (q, 0)).2 := by unfold pend; rw [if_neg (by omega)]
  unfold pdec
  rw [e, h, if_neg hx]
theorem pdec_sides {q : List UInt8} {x : Nat} (h : (psides (q, 0)).2.2 = x) (hx : x ≠ 0) : pdec q = (Pf.none, x) :=
  pdec_err (by rw [ppf_err (by omega), h]) hx
theorem pdec_done {q l : List UInt8} {p : Pf} (h : ppf (q, 0) = (p, (l, 0))) : pdec q = if l = [] then (p, 0) else (Pf.none, 2) := by
  unfold pdec pend
  rw [h]
  rcases l with _ | ⟨b, l⟩
  · simp
  · simp

/-- The bytes of a text: how many, and these. -/
def ptext (l : List UInt8) : List UInt8 := high l.length 2 ++ l
def cat (ds : List ByteArray) : List UInt8 := ds.flatMap fun s => s.data.toList
/-- A proof's bytes. -/
def penc (p : Pf) : List UInt8 :=
  high p.side.length 2 ++ cat p.side ++ [UInt8.ofNat p.k] ++ (if p.k = 2 then ptext p.key.data.toList ++ ptext p.row else if p.k = 1 then ptext p.row else [])

theorem take_cut {a b : List UInt8} {n : Nat} (h : a.length = n) : (a ++ b).take n = a := by subst h; simp
theorem drop_cut {a b : List UInt8} {n : Nat} (h : a.length = n) : (a ++ b).drop n = b := by subst h; simp
theorem pnb_read (n z m : Nat) (r : List UInt8) (hn : n < 2 ^ (8 * z)) (hm : n ≤ m) : pnb (high n z ++ r, 0) z m = (n, (r, 0)) := by
  have hl := high_length n z
  have e : rdN ((high n z ++ r).take z) = n := by rw [take_cut hl, rdN_high, Nat.mod_eq_of_lt hn]
  rw [pnb_ok (by rw [List.length_append]; omega) (by omega), e, drop_cut hl]
theorem ptk_read (t r : List UInt8) : ptk (t ++ r, 0) t.length = (t, (r, 0)) := by
  rw [ptk_ok (by simp), take_cut rfl, drop_cut rfl]
theorem ptx_read (t r : List UInt8) (h : t.length ≤ 4000) : ptx (ptext t ++ r, 0) = (t, (r, 0)) := by
  unfold ptx ptext
  rw [List.append_assoc, pnb_read _ _ _ _ (by omega) h]
  exact ptk_read t r
theorem psd_read (ds : List ByteArray) (r : List UInt8) (h : ∀ s ∈ ds, s.size = 32) : ∀ k, k ≤ ds.length → psd (cat ds ++ r, 0) k = (ds.take k, (cat (ds.drop k) ++ r, 0)) := by
  intro k
  induction k with
  | zero => intro _; simp [psd]
  | succ k ih =>
    intro hk
    have hl : k < ds.length := by omega
    have hs : ds[k].size = 32 := h _ (List.getElem_mem _)
    have hs' : ds[k].data.toList.length = 32 := by simpa using hs
    rw [psd, ih (by omega)]
    have e : cat (ds.drop k) ++ r = ds[k].data.toList ++ (cat (ds.drop (k + 1)) ++ r) := by
      unfold cat
      rw [List.drop_eq_getElem_cons hl, List.flatMap_cons, List.append_assoc]
    have hr := ptk_read ds[k].data.toList (cat (ds.drop (k + 1)) ++ r)
    rw [hs'] at hr
    dsimp only
    rw [e, hr, List.take_succ_eq_append_getElem hl]
/-- What was written is read, whatever stands behind. -/
theorem ppf_read (p : Pf) (r : List UInt8) (h1 : p.side.length ≤ 256) (h2 : ∀ s ∈ p.side, s.size = 32) (h3 : p.k ≤ 2) (h4 : p.key.size ≤ 4000) (h5 : p.row.length ≤ 4000)
    (h6 : p.k ≠ 2 → p.key = ⟨#[]⟩) (h7 : p.k = 0 → p.row = []) : ppf (penc p ++ r, 0) = (p, (r, 0)) := by
  obtain ⟨ds, k, key, row⟩ := p
  simp only at h1 h2 h3 h4 h5 h6 h7
  have hk4 : key.data.toList.length ≤ 4000 := by simpa using h4
  have hs : ∀ X, psides (high ds.length 2 ++ cat ds ++ X, 0) = (ds, (X, 0)) := by
    intro X
    unfold psides
    rw [List.append_assoc, pnb_read _ _ _ _ (by omega) h1]
    dsimp only
    rw [psd_read ds _ h2 _ (Nat.le_refl _)]
    simp [cat]
  have hb : ∀ X, pnb ([UInt8.ofNat k] ++ X, 0) 1 2 = (k, (X, 0)) := by
    intro X
    have e : [UInt8.ofNat k] = high k 1 := by simp [high]
    rw [e, pnb_read _ _ _ _ (by omega) h3]
  unfold penc ppf
  simp only [List.append_assoc]
  simp only [← List.append_assoc (high ds.length 2)]
  rw [hs, hb]
  have hk : k = 0 ∨ k = 1 ∨ k = 2 := by omega
  rcases hk with rfl | rfl | rfl
  · obtain rfl := h6 (by omega)
    obtain rfl := h7 rfl
    simp
  · obtain rfl := h6 (by omega)
    simp [ptx_read _ _ h5]
  · simp [ptx_read _ _ h5, ptx_read _ _ hk4]
theorem pdec_penc (p : Pf) (h1 : p.side.length ≤ 256) (h2 : ∀ s ∈ p.side, s.size = 32) (h3 : p.k ≤ 2) (h4 : p.key.size ≤ 4000) (h5 : p.row.length ≤ 4000)
    (h6 : p.k ≠ 2 → p.key = ⟨#[]⟩) (h7 : p.k = 0 → p.row = []) : pdec (penc p) = (p, 0) := by
  have := ppf_read p [] h1 h2 h3 h4 h5 h6 h7
  rw [List.append_nil] at this
  rw [pdec_done this, if_pos rfl]

end Go.Proofs.YtpbjianhkjjgkaaDoor
/-
  Plain facts on the bytes of proofs, of no program: how they are written, and read as the program does, step by step.
-/
namespace Go.Proofs.YtpbjianhkjjgkaaDoor
open Go.RowKit

def strLay : Lay ByteArray where
  z := 1
  cells s := [.string s]
  len _ := rfl
  one c u hu := by simp at hu; subst hu; rfl
  pos := by omega
abbrev SegS := SegG strLay
abbrev OwnS := OwnG strLay
theorem strT : ElT Tryd.prog strLay 38 9 (.string ⟨#[]⟩) 16 := ⟨Tryd.underlying38, by kernel_rfl, rfl, by omega⟩
theorem SegS.cellAt {w : World} {A : Option Addr} {n : Nat} {l : List ByteArray} (h : SegS w A n l) {k : Nat} (hk : k < n) :
    ∃ g o, A = some ⟨g, o, none⟩ ∧ w.cell? ⟨g, o + k, none⟩ = some (.string (l[k]'(by rw [h.1]; exact hk))) := by
  obtain ⟨g, o, e, hc⟩ := SegG.at_ h hk
  refine ⟨g, o, e, ?_⟩
  have := hc 0 _ rfl
  rw [show o + k * strLay.z + 0 = o + k from by show o + k * 1 + 0 = o + k; omega] at this
  exact this

theorem i64_or_high (x b : Nat) (hx : x < 1099511627776) (hb : b < 256) : bits .or .i64 (wrap64 ((x : Int) * 256)) (wrap64 (b : Int)) = ((x * 256 + b : Nat) : Int) := by
  rw [IntWalk.wrap64_in _ (by omega), IntWalk.wrap64_in _ (by omega)]
  have e : ((x : Int) * 256) = ((x * 256 : Nat) : Int) := by rw [Int.natCast_mul]; rfl
  rw [e]
  show IntKind.i64.wrap (((BitVec.ofInt 64 ((x * 256 : Nat) : Int) ||| BitVec.ofInt 64 (b : Int)).toNat : Nat) : Int) = _
  rw [BitVec.toNat_or, ofInt_u64 _ (by omega), ofInt_u64 _ (by omega)]
  have := Nat.shiftLeft_add_eq_or_of_lt (a := x) (i := 8) (b := b) hb
  rw [Nat.shiftLeft_eq] at this
  rw [← this]
  exact IntWalk.i64_in _ (by omega)

/-- A reader at block g: the bytes that are left, and the error. -/
structure Rp (w : World) (g : Nat) (l : List UInt8) (e : Nat) : Prop where
  ex : ∃ A c, w.cell? ⟨g, 0, none⟩ = some (.slice A l.length c) ∧ Seg w A l.length l ∧ l.length ≤ c ∧ c ≤ maxLen ∧ (0 < l.length → ∀ a, A = some a → a.block < g)
  at1 : w.cell? ⟨g, 1, none⟩ = some (.int .i64 (e : Int))
  fr : ∀ j, w.frozen? ⟨g, j, none⟩ = false
theorem Rp.lt {w : World} {g : Nat} {l : List UInt8} {e : Nat} (h : Rp w g l e) : g < w.heap.size := World.block_lt_of_cell? w _ h.at1
theorem Rp.below {w w' : World} {g : Nat} {l : List UInt8} {e : Nat} (h : Rp w g l e) (hb : Below w.heap.size w w') : Rp w' g l e := by
  obtain ⟨A, c, h0, h1, h2⟩ := h.ex
  exact ⟨⟨A, c, cell_below hb h0, h1.below hb, h2⟩, cell_below hb h.at1, fun j => (hb.frozen (p := ⟨g, j, none⟩) h.lt).trans (h.fr j)⟩
theorem only_setB (w : World) (p : Addr) (v : Value) : Only w (w.setCell p v) (fun k => k = p.block) := (Only.refl w (fun k => k = p.block)).setCell p v fun _ => rfl
theorem Rp.setE {w : World} {g : Nat} {l : List UInt8} {e : Nat} (h : Rp w g l e) (x : Nat) : Rp (w.setCell ⟨g, 1, none⟩ (.int .i64 (x : Int))) g l x := by
  obtain ⟨A, c, h0, h1, h2, h3, h4⟩ := h.ex
  have hne : (⟨g, 1, none⟩ : Addr) ≠ ⟨g, 0, none⟩ := by simp
  refine ⟨⟨A, c, by rw [World.cell?_setCell_other (h := hne)]; exact h0, h1.only (only_setB w ⟨g, 1, none⟩ _) (fun hn a ha e => ?_), h2, h3, h4⟩, World.cell?_setCell_same _ _ _ h.at1, fun j => by rw [World.frozen?_setCell]; exact h.fr j⟩
  have := h4 hn a ha
  have e : a.block = g := e
  omega
theorem Rp.setL {w : World} {g : Nat} {l r : List UInt8} {e : Nat} (h : Rp w g l e) (A : Option Addr) (n c : Nat) (hn : r.length = n) (hs : Seg w A n r) (hc : n ≤ c) (hm : c ≤ maxLen) (ha : 0 < n → ∀ a, A = some a → a.block < g) :
    Rp (w.setCell ⟨g, 0, none⟩ (.slice A n c)) g r e := by
  subst hn
  obtain ⟨A0, c0, h0, _⟩ := h.ex
  have hne : (⟨g, 0, none⟩ : Addr) ≠ ⟨g, 1, none⟩ := by simp
  refine ⟨⟨A, c, World.cell?_setCell_same _ _ _ h0, hs.only (only_setB w ⟨g, 0, none⟩ _) (fun hn a hA e => ?_), hc, hm, ha⟩, by rw [World.cell?_setCell_other (h := hne)]; exact h.at1, fun j => by rw [World.frozen?_setCell]; exact h.fr j⟩
  have := ha hn a hA
  have e : a.block = g := e
  omega
theorem Rp.drewN {w : World} {g : Nat} {l : List UInt8} {e : Nat} (h : Rp w g l e) (k : Nat) : Rp (w.drewN k) g l e := h.below ⟨rfl, rfl, rfl, Nat.le_refl _, fun _ _ => rfl⟩

/-- What 'take' answers: a piece of the bytes. -/
def TkP (w : World) (g : Nat) (t : List UInt8) (s : Rst) (en : Ending) (w' : World) : Prop :=
  ∃ A c, en = .returned (.slice A t.length c) ∧ Seg w' A t.length t ∧ t.length ≤ c ∧ c ≤ maxLen ∧ (0 < t.length → ∀ a, A = some a → a.block < g) ∧ Rp w' g s.1 s.2 ∧ Only w w' (fun k => k = g)

set_option maxHeartbeats 4000000 in
theorem ptake_any (g : Nat) (l : List UInt8) (e m : Nat) (w : World) (hr : Rp w g l e) (hm : m ≤ 1000000) (hl : l.length ≤ 1099511627776) :
    Calls Tryd.prog 139 #[.pointer (some ⟨g, 0, none⟩), .int .i64 (m : Int)] w (TkP w g (ptk (l, e) m).1 (ptk (l, e) m).2) := by
  obtain ⟨A, c, h0, h1, h2, h3, h4⟩ := hr.ex
  have ha := hr.at1
  have f0 := hr.fr 0
  have f1 := hr.fr 1
  unfold maxLen at h3
  by_cases he : e = 0
  · subst he
    by_cases hlt : l.length < m
    · rw [ptk_short hlt]
      have hlt' : (l.length : Int) < (m : Int) := by omega
      go_enter Tryd.func139, Tryd.ntmps139
      go_wp2
      go_ret
      refine ⟨none, 0, rfl, Seg.nil _ _, Nat.le_refl _, Nat.zero_le _, fun h => absurd h (by simp), ?_, ?_⟩
      · exact hr.setE 3
      · exact (Only.refl w (fun k => k = g)).setCell _ _ fun _ => rfl
    · rw [ptk_ok (by omega)]
      have hlt' : ¬ (l.length : Int) < (m : Int) := by omega
      obtain ⟨n, hn⟩ : ∃ n, l.length = n := ⟨_, rfl⟩
      rw [hn] at h0 h1 h2 h4 hlt' hlt hl
      obtain ⟨A2, hA2, hseg2⟩ : ∃ A2, (if c = m then A else Option.map (fun x => x.add m) A) = A2 ∧ (Seg w A2 (n - m) (l.drop m) ∧ (0 < n - m → ∀ a, A2 = some a → a.block < g)) := ⟨_, rfl, h1.fromA m c (by omega) h2, fun hp a e => by
        rw [if_neg (by omega)] at e
        obtain ⟨b, hb, e⟩ := Option.map_eq_some_iff.1 e
        have := h4 (by omega) b hb
        rw [← e]
        simp only [Addr.add]
        split
        · exact this
        · exact this⟩
      have HS2 := Lib.hid hseg2
      have HN := Lib.hid hn
      clear hseg2 hn
      go_enter Tryd.func139, Tryd.ntmps139
      go_wp2
      go_ret
      have hlm : (List.take m l).length = m := by rw [List.length_take]; have := HN.out; omega
      refine ⟨A, c, by rw [hlm]; rfl, ?_, by rw [hlm]; omega, by simp only [maxLen]; omega, fun hp => ?_, ?_, ?_⟩
      · rw [hlm]
        refine (h1.upto m (by omega)).only (only_setB w ⟨g, 0, none⟩ _) (fun hn a hA e => ?_)
        have := h4 (by omega) a hA
        have e : a.block = g := e
        omega
      · rw [hlm] at hp
        exact h4 (by omega)
      · exact hr.setL A2 (n - m) (c - m) (by rw [List.length_drop, HN.out]) HS2.out.1 (by omega) (by simp only [maxLen]; omega) HS2.out.2
      · exact (Only.refl w (fun k => k = g)).setCell _ _ fun _ => rfl
  · rw [ptk_err he]
    have hne : ((e : Int) == 0) = false := by simp; omega
    go_enter Tryd.func139, Tryd.ntmps139
    go_wp2
    go_ret
    exact ⟨none, 0, rfl, Seg.nil _ _, Nat.le_refl _, Nat.zero_le _, fun h => absurd h (by simp), hr, Only.refl w (fun k => k = g)⟩

end Go.Proofs.YtpbjianhkjjgkaaDoor

namespace Go.Proofs.YtpbjianhkjjgkaaDoor
open Go.RowKit

theorem boolIs {b : Bool} {p : Prop} (h : b = true ↔ p) (hp : ¬ p) : b = false := by
  rcases b with _ | _
  · rfl
  · exact absurd (h.1 rfl) hp
def stepI (m : List It) (x : TAct) : List It := if x.b then delI m (x.k % 24) else putI m (x.k % 24) x.p
/-- The items that acts make. -/
def madeI (L : List TAct) : List It := L.foldl stepI []
theorem madeI_succ (L : List TAct) (j : Nat) (h : j < L.length) : madeI (L.take (j + 1)) = stepI (madeI (L.take j)) L[j] := by
  unfold madeI
  rw [List.take_succ_eq_append_getElem h, List.foldl_append]
  rfl
theorem stepI_its {m : List It} (h : Its m) (x : TAct) : Its (stepI m x) := by
  unfold stepI
  split
  · exact h.del _
  · exact h.put (by omega) _
theorem fold_its (L : List TAct) : ∀ m, Its m → Its (L.foldl stepI m) := by
  induction L with
  | nil => intro m h; exact h
  | cons x L ih => intro m h; exact ih _ (stepI_its h x)
theorem madeI_its (L : List TAct) : Its (madeI L) := fold_its L [] ⟨List.Pairwise.nil, fun x hx => by cases hx⟩
theorem stepI_all {p : It → Prop} {m : List It} (hm : Its m) (h : ∀ x ∈ m, p x) (x : TAct) (hx : p (x.k % 24, x.p)) : ∀ y ∈ stepI m x, p y := by
  intro y hy
  unfold stepI at hy
  split at hy
  · exact h y ((mem_del y).1 hy).1
  · rcases (mem_put hm.1 y).1 hy with rfl | ⟨h1, _⟩
    · exact hx
    · exact h y h1
theorem fold_all {p : It → Prop} (L : List TAct) (hL : ∀ x ∈ L, p (x.k % 24, x.p)) : ∀ m, Its m → (∀ x ∈ m, p x) → ∀ y ∈ L.foldl stepI m, p y := by
  induction L with
  | nil => intro m _ h; exact h
  | cons x L ih => intro m hm h; exact ih (fun y hy => hL y (List.mem_cons_of_mem _ hy)) _ (stepI_its hm x) (stepI_all hm h x (hL x (List.mem_cons_self ..)))
theorem madeI_all {p : It → Prop} (L : List TAct) (hL : ∀ x ∈ L, p (x.k % 24, x.p)) : ∀ y ∈ madeI L, p y :=
  fold_all L hL [] ⟨List.Pairwise.nil, fun x hx => by cases hx⟩ (fun x hx => by cases hx)
theorem madeI_24 (L : List TAct) : ∀ y ∈ madeI L, y.1 < 24 := madeI_all (p := fun y => y.1 < 24) L fun x _ => by
  show x.k % 24 < 24
  omega
/-- Acts that are not too much. -/
def SmallA (N : Nat) (L : List TAct) : Prop := (∀ x ∈ L, x.p.length ≤ 20) ∧ L.length ≤ N
theorem madeI_row {N : Nat} {L : List TAct} (h : SmallA N L) : ∀ y ∈ madeI L, y.2.length ≤ 20 := madeI_all (p := fun y => y.2.length ≤ 20) L h.1
theorem madeI_rows (L : List TAct) (j N : Nat) (h : SmallA N L) : ∀ y ∈ madeI (L.take j), y.2.length ≤ 20 := madeI_all (p := fun y => y.2.length ≤ 20) _ fun x hx => h.1 x (List.mem_of_mem_take hx)
theorem put_len (m : List It) (k : Nat) (l : List UInt8) : (putI m k l).length ≤ m.length + 1 := by
  induction m with
  | nil => simp [putI]
  | cons y m ih =>
    unfold putI
    split
    · simp only [List.length_cons]; omega
    · split
      · simp
      · simp
theorem its_24 {m : List It} (h : Its m) (h2 : ∀ x ∈ m, x.1 < 24) : m.length ≤ 24 := by
  have hi : ∀ i (hi : i < m.length), i ≤ (m[i]).1 := by
    intro i
    induction i with
    | zero => intro _; exact Nat.zero_le _
    | succ i ih =>
      intro hi
      have h1 := ih (by omega)
      have h2 := List.pairwise_iff_getElem.1 h.1 i (i + 1) (by omega) hi (by omega)
      omega
  rcases Nat.eq_zero_or_pos m.length with h0 | h0
  · omega
  · have h1 := hi (m.length - 1) (by omega)
    have h3 := h2 _ (List.getElem_mem (show m.length - 1 < m.length by omega))
    omega

/-- What is left of items where a sum's first bits lead. -/
def curI (T : ByteArray) (m : List It) : Nat → List It
  | 0 => m
  | d + 1 => halfI (curI T m d) d (bitF T (d : Int))
def sideI (T : ByteArray) (m : List It) (d : Nat) : ByteArray := ⟨(tree (255 - d) (halfI (curI T m d) d (1 - bitF T (d : Int))) (d + 1)).dig.toArray⟩
def sidesI (T : ByteArray) (m : List It) (d : Nat) : List ByteArray := (List.range d).map (sideI T m)
theorem sidesI_succ (T : ByteArray) (m : List It) (d : Nat) : sidesI T m (d + 1) = sidesI T m d ++ [sideI T m d] := by
  unfold sidesI
  rw [List.range_succ, List.map_append]
  rfl
theorem sidesI_len (T : ByteArray) (m : List It) (d : Nat) : (sidesI T m d).length = d := by simp [sidesI]
theorem sidesI_32 (T : ByteArray) (m : List It) (d : Nat) : ∀ s ∈ sidesI T m d, s.size = 32 := by
  intro s hs
  obtain ⟨i, _, rfl⟩ := List.mem_map.1 hs
  exact Tr.dig_size _
theorem sidesI_at (T : ByteArray) (m : List It) (d i : Nat) (h : i < d) : (sidesI T m d)[i]? = some (sideI T m i) := by
  unfold sidesI
  rw [List.getElem?_map, List.getElem?_range h]
  rfl
theorem curI_good {T : ByteArray} {m : List It} (h : Good m 0) : ∀ d, Good (curI T m d) d
  | 0 => h
  | d + 1 => (curI_good h d).half _
theorem curI_sub {T : ByteArray} {m : List It} : ∀ d, ∀ x ∈ curI T m d, x ∈ m
  | 0, _, h => h
  | d + 1, x, h => curI_sub d x ((mem_half x).1 h).1
theorem curI_in {T : ByteArray} {m : List It} {x : It} (hx : x ∈ m) (hT : T = sumOf x.1) : ∀ d, x ∈ curI T m d
  | 0 => hx
  | d + 1 => (mem_half x).2 ⟨curI_in hx hT d, by rw [hT]; rfl⟩
theorem curI_bits {T : ByteArray} {m : List It} : ∀ d, ∀ x ∈ curI T m d, ∀ i, i < d → bitF (sumOf x.1) (i : Int) = bitF T (i : Int)
  | 0, _, _, i, hi => absurd hi (by omega)
  | d + 1, x, hx, i, hi => by
    obtain ⟨h1, h2⟩ := (mem_half x).1 hx
    by_cases e : i = d
    · subst e
      exact h2
    · exact curI_bits d x h1 i (by omega)
theorem curI_len (T : ByteArray) (m : List It) : ∀ d, (curI T m d).length ≤ m.length
  | 0 => Nat.le_refl _
  | d + 1 => Nat.le_trans (List.length_filter_le _ _) (curI_len T m d)
/-- Where the way of a sum ends. -/
def StopAt (T : ByteArray) (m : List It) (d : Nat) : Prop := (∀ i, i < d → 2 ≤ (curI T m i).length) ∧ (curI T m d).length ≤ 1
theorem stop_le {T : ByteArray} {m : List It} {d : Nat} (h : Good m 0) (hs : ∀ i, i < d → 2 ≤ (curI T m i).length) : d ≤ 256 := by
  rcases d with _ | d
  · omega
  · have := (curI_good h d).room (hs d (by omega))
    omega
theorem stop_ex (T : ByteArray) {m : List It} (h : Good m 0) : ∃ d, d ≤ 256 ∧ StopAt T m d := by
  have hx : ∀ n, (∃ d, d ≤ n ∧ StopAt T m d) ∨ ∀ i, i ≤ n → 2 ≤ (curI T m i).length := by
    intro n
    induction n with
    | zero =>
      by_cases e : (curI T m 0).length ≤ 1
      · exact .inl ⟨0, Nat.le_refl _, fun i hi => absurd hi (by omega), e⟩
      · refine .inr fun i hi => ?_
        obtain rfl : i = 0 := by omega
        omega
    | succ n ih =>
      rcases ih with ⟨d, hd, hs⟩ | ih
      · exact .inl ⟨d, by omega, hs⟩
      · by_cases e : (curI T m (n + 1)).length ≤ 1
        · exact .inl ⟨n + 1, Nat.le_refl _, fun i hi => ih i (by omega), e⟩
        · refine .inr fun i hi => ?_
          by_cases e2 : i = n + 1
          · rw [e2]; omega
          · exact ih i (by omega)
  rcases hx 256 with h' | h'
  · exact h'
  · have := (curI_good h 256).room (h' 256 (Nat.le_refl _))
    omega
theorem stop_one {T : ByteArray} {m : List It} {d e : Nat} (hd : StopAt T m d) (he : ∀ i, i < e → 2 ≤ (curI T m i).length) : e ≤ d := by
  apply Nat.le_of_not_lt
  intro h
  have := he d h
  have := hd.2
  omega
theorem stop_go {T : ByteArray} {m : List It} {d e : Nat} (hd : StopAt T m d) (h : e ≤ d) (h2 : 2 ≤ (curI T m e).length) : e + 1 ≤ d := by
  by_cases e1 : e = d
  · subst e1
    have := hd.2
    omega
  · omega
theorem stop_end {T : ByteArray} {m : List It} {d e : Nat} (hd : StopAt T m d) (h : e ≤ d) (h2 : (curI T m e).length ≤ 1) : e = d := by
  by_cases e1 : e = d
  · exact e1
  · have := hd.1 e (by omega)
    omega

/-- The sum of a text. -/
def sumT (K : ByteArray) : ByteArray := ⟨(sha K.data.toList).toArray⟩
theorem sumT_key (u : Nat) : sumT (keyOf u) = sumOf u := by unfold sumT sumOf; rw [keyOf_list]
theorem sumT_size (K : ByteArray) : (sumT K).size = 32 := sha_size _
/-- What is built of a text, when its way is d halves long. -/
def endP (K : ByteArray) (ds : List ByteArray) : List It → Pf
  | [] => ⟨ds, 0, ⟨#[]⟩, []⟩
  | x :: _ => if keyOf x.1 = K then ⟨ds, 1, ⟨#[]⟩, x.2⟩ else ⟨ds, 2, keyOf x.1, x.2⟩
def bldP (K : ByteArray) (m : List It) (d : Nat) : Pf := endP K (sidesI (sumT K) m d) (curI (sumT K) m d)
theorem endP_side (K : ByteArray) (ds : List ByteArray) (r : List It) : (endP K ds r).side = ds := by
  unfold endP
  split
  · rfl
  · split <;> rfl
theorem bldP_side (K : ByteArray) (m : List It) (d : Nat) : (bldP K m d).side = sidesI (sumT K) m d := endP_side _ _ _
theorem bldP_k (K : ByteArray) (m : List It) (d : Nat) : (bldP K m d).k ≤ 2 := by
  unfold bldP endP
  split
  · exact Nat.zero_le _
  · split
    · show 1 ≤ 2; omega
    · exact Nat.le_refl _
theorem bldP_row {K : ByteArray} {m : List It} {d N : Nat} (h : ∀ x ∈ m, x.2.length ≤ N) : (bldP K m d).row.length ≤ N := by
  unfold bldP
  obtain ⟨r, hr⟩ : ∃ r, curI (sumT K) m d = r := ⟨_, rfl⟩
  rw [hr]
  rcases r with _ | ⟨x, r⟩
  · exact Nat.zero_le _
  · have hx : x ∈ m := curI_sub d x (by rw [hr]; exact List.mem_cons_self ..)
    show (if keyOf x.1 = K then (⟨_, 1, ⟨#[]⟩, x.2⟩ : Pf) else ⟨_, 2, keyOf x.1, x.2⟩).row.length ≤ N
    split
    · exact h x hx
    · exact h x hx
theorem bldP_key (K : ByteArray) (m : List It) (d : Nat) : (bldP K m d).key.size ≤ 2 := by
  unfold bldP endP
  split
  · exact Nat.zero_le _
  · split
    · exact Nat.zero_le _
    · show (keyOf _).size ≤ 2
      rw [keyOf_size]
      exact Nat.le_refl _
theorem bldP_nokey (K : ByteArray) (m : List It) (d : Nat) : (bldP K m d).k ≠ 2 → (bldP K m d).key = ⟨#[]⟩ := by
  unfold bldP endP
  split
  · intro _; rfl
  · split
    · intro _; rfl
    · intro h; exact absurd rfl h
theorem bldP_norow (K : ByteArray) (m : List It) (d : Nat) : (bldP K m d).k = 0 → (bldP K m d).row = [] := by
  unfold bldP endP
  split
  · intro _; rfl
  · split
    · intro h; exact absurd (show 1 = 0 from h) (by omega)
    · intro h; exact absurd (show 2 = 0 from h) (by omega)
theorem bldP_back {K : ByteArray} {m : List It} {d : Nat} (h : ∀ x ∈ m, x.2.length ≤ 4000) (hd : d ≤ 256) : pdec (penc (bldP K m d)) = (bldP K m d, 0) :=
  pdec_penc _ (by rw [bldP_side, sidesI_len]; exact hd) (by rw [bldP_side]; exact sidesI_32 _ _ _) (bldP_k _ _ _) (by have := bldP_key K m d; omega) (bldP_row h) (bldP_nokey _ _ _) (bldP_norow _ _ _)

end Go.Proofs.YtpbjianhkjjgkaaDoor
