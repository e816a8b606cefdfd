/-
  Texts in rows ('SegS', 'OwnS'); the reader of proofs in memory ('Rp': what is left, and the error), its take and number.
-/
import Derived.Test.YtaanaoimnecenaaDoorPure
import Derived.Test.YtaanaoimnecenaaDoorW1
import Derived.Test.YtaanaoimnecenaaDoorMemG
import Derived.Test.YtaanaoimnecenaaDoorDK1
namespace Go.Proofs.YtaanaoimnecenaaDoor
open Go.RowKit

/-- A proof. -/
structure Pf where
  side : List ByteArray
  k : Nat
  key : ByteArray
  row : List UInt8
def Pf.none : Pf := ⟨[], 0, ⟨#[]⟩, []⟩

/-- What is left to be read, and the error. -/
abbrev Rst := List UInt8 × Nat
def ptk (s : Rst) (n : Nat) : List UInt8 × Rst :=
  if s.2 ≠ 0 then ([], s) else if s.1.length < n then ([], (s.1, 3)) else (s.1.take n, (s.1.drop n, 0))
def pnb (s : Rst) (z m : Nat) : Nat × Rst :=
  if m < rdN (ptk s z).1 then (0, ((ptk s z).2.1, 2)) else (rdN (ptk s z).1, (ptk s z).2)
def ptx (s : Rst) : List UInt8 × Rst := ptk (pnb s 2 4000).2 (pnb s 2 4000).1
def psd (s : Rst) : Nat → List ByteArray × Rst
  | 0 => ([], s)
  | k + 1 => ((psd s k).1 ++ [⟨(ptk (psd s k).2 32).1.toArray⟩], (ptk (psd s k).2 32).2)
def psides (s : Rst) : List ByteArray × Rst := psd (pnb s 2 256).2 (pnb s 2 256).1
def ppf (s : Rst) : Pf × Rst :=
  if (pnb (psides s).2 1 2).1 = 2 then
    (⟨(psides s).1, 2, ⟨(ptx (pnb (psides s).2 1 2).2).1.toArray⟩, (ptx (ptx (pnb (psides s).2 1 2).2).2).1⟩, (ptx (ptx (pnb (psides s).2 1 2).2).2).2)
  else if (pnb (psides s).2 1 2).1 = 1 then
    (⟨(psides s).1, 1, ⟨#[]⟩, (ptx (pnb (psides s).2 1 2).2).1⟩, (ptx (pnb (psides s).2 1 2).2).2)
  else (⟨(psides s).1, (pnb (psides s).2 1 2).1, ⟨#[]⟩, []⟩, (pnb (psides s).2 1 2).2)
def pend (s : Rst) : Rst := if s.2 = 0 ∧ 0 < s.1.length then (s.1, 2) else s
/-- What bytes are read as, and the error's number. -/
def pdec (q : List UInt8) : Pf × Nat :=
  if (pend (ppf (q, 0)).2).2 = 0 then ((ppf (q, 0)).1, 0) else (Pf.none, (pend (ppf (q, 0)).2).2)

theorem ptk_err {s : Rst} (h : s.2 ≠ 0) (n : Nat) : ptk s n = ([], s) := by unfold ptk; rw [if_pos h]
theorem ptk_short {l : List UInt8} {n : Nat} (h : l.length < n) : ptk (l, 0) n = ([], (l, 3)) := by unfold ptk; rw [if_neg (by simp), if_pos h]
theorem ptk_ok {l : List UInt8} {n : Nat} (h : n ≤ l.length) : ptk (l, 0) n = (l.take n, (l.drop n, 0)) := by unfold ptk; rw [if_neg (by simp), if_neg (by simp; omega)]
theorem ptk_len (s : Rst) (n : Nat) : (ptk s n).1.length ≤ n := by
  unfold ptk
  split
  · simp
  · split
    · simp
    · simp; omega
theorem pnb_err {s : Rst} (h : s.2 ≠ 0) (z m : Nat) : pnb s z m = (0, s) := by
  unfold pnb
  rw [ptk_err h]
  simp [rdN]
theorem pnb_short {l : List UInt8} {z : Nat} (h : l.length < z) (m : Nat) : pnb (l, 0) z m = (0, (l, 3)) := by
  unfold pnb
  rw [ptk_short h]
  simp [rdN]
theorem pnb_big {l : List UInt8} {z m : Nat} (h : z ≤ l.length) (hm : m < rdN (l.take z)) : pnb (l, 0) z m = (0, (l.drop z, 2)) := by
  unfold pnb
  rw [ptk_ok h, if_pos hm]
theorem pnb_ok {l : List UInt8} {z m : Nat} (h : z ≤ l.length) (hm : rdN (l.take z) ≤ m) : pnb (l, 0) z m = (rdN (l.take z), (l.drop z, 0)) := by
  unfold pnb
  rw [ptk_ok h, if_neg (by simp; omega)]
theorem pnb_le (s : Rst) (z m : Nat) : (pnb s z m).1 ≤ m := by
  unfold pnb
  split
  · exact Nat.zero_le _
  · simp_all
theorem ptx_err {s : Rst} (h : s.2 ≠ 0) : ptx s = ([], s) := by
  unfold ptx
  rw [pnb_err h, ptk_err h]
theorem psd_err {s : Rst} (h : s.2 ≠ 0) (k : Nat) : (psd s k).2 = s := by
  induction k with
  | zero => rfl
  | succ k ih => rw [psd, ih, ptk_err h]
theorem psd_stay (s : Rst) {i : Nat} (h : (psd s i).2.2 ≠ 0) : ∀ j, i ≤ j → (psd s j).2 = (psd s i).2 := by
  intro j hj
  induction j with
  | zero =>
    obtain rfl : i = 0 := by omega
    rfl
  | succ j ih =>
    by_cases e : i = j + 1
    · subst e; rfl
    · have := ih (by omega)
      rw [psd, this, ptk_err h]
theorem ppf_err {s : Rst} (h : (psides s).2.2 ≠ 0) : (ppf s).2 = (psides s).2 := by
  unfold ppf
  rw [pnb_err h]
  rfl
theorem pdec_err {q : List UInt8} {x : Nat} (h : (ppf (q, 0)).2.2 = x) (hx : x ≠ 0) : pdec q = (Pf.none, x) := by
  have e : pend (ppf (q, 0)).2 = (ppf (q, 0)).2 := by unfold pend; rw [if_neg (by omega)]
  unfold pdec
  rw [e, h, if_neg hx]
theorem pdec_sides {q : List UInt8} {x : Nat} (h : (psides (q, 0)).2.2 = x) (hx : x ≠ 0) : pdec q = (Pf.none, x) :=
  pdec_err (by rw [ppf_err (by omega), h]) hx
theorem pdec_done {q l : List UInt8} {p : Pf} (h : ppf (q, 0) = (p, (l, 0))) : pdec q = if l = [] then (p, 0) else (Pf.none, 2) := by
  unfold pdec pend
  rw [h]
  rcases l with _ | ⟨b, l⟩
  · simp
  · simp

/-- The bytes of a text: how many, and these. -/
def ptext (l : List UInt8) : List UInt8 := high l.length 2 ++ l
def cat (ds : List ByteArray) : List UInt8 := ds.flatMap fun s => s.data.toList
/-- A proof's bytes. -/
def penc (p : Pf) : List UInt8 :=
  high p.side.length 2 ++ cat p.side ++ [UInt8.ofNat p.k] ++ (if p.k = 2 then ptext p.key.data.toList ++ ptext p.row else if p.k = 1 then ptext p.row else [])

theorem take_cut {a b : List UInt8} {n : Nat} (h : a.length = n) : (a ++ b).take n = a := by subst h; simp
theorem drop_cut {a b : List UInt8} {n : Nat} (h : a.length = n) : (a ++ b).drop n = b := by subst h; simp
theorem pnb_read (n z m : Nat) (r : List UInt8) (hn : n < 2 ^ (8 * z)) (hm : n ≤ m) : pnb (high n z ++ r, 0) z m = (n, (r, 0)) := by
  have hl := high_length n z
  have e : rdN ((high n z ++ r).take z) = n := by rw [take_cut hl, rdN_high, Nat.mod_eq_of_lt hn]
  rw [pnb_ok (by rw [List.length_append]; omega) (by omega), e, drop_cut hl]
theorem ptk_read (t r : List UInt8) : ptk (t ++ r, 0) t.length = (t, (r, 0)) := by
  rw [ptk_ok (by simp), take_cut rfl, drop_cut rfl]
theorem ptx_read (t r : List UInt8) (h : t.length ≤ 4000) : ptx (ptext t ++ r, 0) = (t, (r, 0)) := by
  unfold ptx ptext
  rw [List.append_assoc, pnb_read _ _ _ _ (by omega) h]
  exact ptk_read t r
theorem psd_read (ds : List ByteArray) (r : List UInt8) (h : ∀ s ∈ ds, s.size = 32) : ∀ k, k ≤ ds.length → psd (cat ds ++ r, 0) k = (ds.take k, (cat (ds.drop k) ++ r, 0)) := by
  intro k
  induction k with
  | zero => intro _; simp [psd]
  | succ k ih =>
    intro hk
    have hl : k < ds.length := by omega
    have hs : ds[k].size = 32 := h _ (List.getElem_mem _)
    have hs' : ds[k].data.toList.length = 32 := by simpa using hs
    rw [psd, ih (by omega)]
    have e : cat (ds.drop k) ++ r = ds[k].data.toList ++ (cat (ds.drop (k + 1)) ++ r) := by
      unfold cat
      rw [List.drop_eq_getElem_cons hl, List.flatMap_cons, List.append_assoc]
    have hr := ptk_read ds[k].data.toList (cat (ds.drop (k + 1)) ++ r)
    rw [hs'] at hr
    dsimp only
    rw [e, hr, List.take_succ_eq_append_getElem hl]
/-- What was written is read, whatever stands behind. -/
theorem ppf_read (p : Pf) (r : List UInt8) (h1 : p.side.length ≤ 256) (h2 : ∀ s ∈ p.side, s.size = 32) (h3 : p.k ≤ 2) (h4 : p.key.size ≤ 4000) (h5 : p.row.length ≤ 4000)
    (h6 : p.k ≠ 2 → p.key = ⟨#[]⟩) (h7 : p.k = 0 → p.row = []) : ppf (penc p ++ r, 0) = (p, (r, 0)) := by
  obtain ⟨ds, k, key, row⟩ := p
  simp only at h1 h2 h3 h4 h5 h6 h7
  have hk4 : key.data.toList.length ≤ 4000 := by simpa using h4
  have hs : ∀ X, psides (high ds.length 2 ++ cat ds ++ X, 0) = (ds, (X, 0)) := by
    intro X
    unfold psides
    rw [List.append_assoc, pnb_read _ _ _ _ (by omega) h1]
    dsimp only
    rw [psd_read ds _ h2 _ (Nat.le_refl _)]
    simp [cat]
  have hb : ∀ X, pnb ([UInt8.ofNat k] ++ X, 0) 1 2 = (k, (X, 0)) := by
    intro X
    have e : [UInt8.ofNat k] = high k 1 := by simp [high]
    rw [e, pnb_read _ _ _ _ (by omega) h3]
  unfold penc ppf
  simp only [List.append_assoc]
  simp only [← List.append_assoc (high ds.length 2)]
  rw [hs, hb]
  have hk : k = 0 ∨ k = 1 ∨ k = 2 := by omega
  rcases hk with rfl | rfl | rfl
  · obtain rfl := h6 (by omega)
    obtain rfl := h7 rfl
    simp
  · obtain rfl := h6 (by omega)
    simp [ptx_read _ _ h5]
  · simp [ptx_read _ _ h5, ptx_read _ _ hk4]
theorem pdec_penc (p : Pf) (h1 : p.side.length ≤ 256) (h2 : ∀ s ∈ p.side, s.size = 32) (h3 : p.k ≤ 2) (h4 : p.key.size ≤ 4000) (h5 : p.row.length ≤ 4000)
    (h6 : p.k ≠ 2 → p.key = ⟨#[]⟩) (h7 : p.k = 0 → p.row = []) : pdec (penc p) = (p, 0) := by
  have := ppf_read p [] h1 h2 h3 h4 h5 h6 h7
  rw [List.append_nil] at this
  rw [pdec_done this, if_pos rfl]

end Go.Proofs.YtaanaoimnecenaaDoor
/-
  Plain facts on the bytes of proofs, of no program: how they are written, and read as the program does, step by step.
-/
namespace Go.Proofs.YtaanaoimnecenaaDoor
open Go.RowKit

def strLay : Lay ByteArray where
  z := 1
  cells s := [.string s]
  len _ := rfl
  one c u hu := by simp at hu; subst hu; rfl
  pos := by omega
abbrev SegS := SegG strLay
abbrev OwnS := OwnG strLay
theorem strT : ElT Tryd.prog strLay 38 9 (.string ⟨#[]⟩) 16 := ⟨Tryd.underlying38, by kernel_rfl, rfl, by omega⟩
theorem SegS.cellAt {w : World} {A : Option Addr} {n : Nat} {l : List ByteArray} (h : SegS w A n l) {k : Nat} (hk : k < n) :
    ∃ g o, A = some ⟨g, o, none⟩ ∧ w.cell? ⟨g, o + k, none⟩ = some (.string (l[k]'(by rw [h.1]; exact hk))) := by
  obtain ⟨g, o, e, hc⟩ := SegG.at_ h hk
  refine ⟨g, o, e, ?_⟩
  have := hc 0 _ rfl
  rw [show o + k * strLay.z + 0 = o + k from by show o + k * 1 + 0 = o + k; omega] at this
  exact this

theorem i64_or_high (x b : Nat) (hx : x < 1099511627776) (hb : b < 256) : bits .or .i64 (wrap64 ((x : Int) * 256)) (wrap64 (b : Int)) = ((x * 256 + b : Nat) : Int) := by
  rw [IntWalk.wrap64_in _ (by omega), IntWalk.wrap64_in _ (by omega)]
  have e : ((x : Int) * 256) = ((x * 256 : Nat) : Int) := by rw [Int.natCast_mul]; rfl
  rw [e]
  show IntKind.i64.wrap (((BitVec.ofInt 64 ((x * 256 : Nat) : Int) ||| BitVec.ofInt 64 (b : Int)).toNat : Nat) : Int) = _
  rw [BitVec.toNat_or, ofInt_u64 _ (by omega), ofInt_u64 _ (by omega)]
  have := Nat.shiftLeft_add_eq_or_of_lt (a := x) (i := 8) (b := b) hb
  rw [Nat.shiftLeft_eq] at this
  rw [← this]
  exact IntWalk.i64_in _ (by omega)

/-- A reader at block g: the bytes that are left, and the error. -/
structure Rp (w : World) (g : Nat) (l : List UInt8) (e : Nat) : Prop where
  ex : ∃ A c, w.cell? ⟨g, 0, none⟩ = some (.slice A l.length c) ∧ Seg w A l.length l ∧ l.length ≤ c ∧ c ≤ maxLen ∧ (0 < l.length → ∀ a, A = some a → a.block < g)
  at1 : w.cell? ⟨g, 1, none⟩ = some (.int .i64 (e : Int))
  fr : ∀ j, w.frozen? ⟨g, j, none⟩ = false
theorem Rp.lt {w : World} {g : Nat} {l : List UInt8} {e : Nat} (h : Rp w g l e) : g < w.heap.size := World.block_lt_of_cell? w _ h.at1
theorem Rp.below {w w' : World} {g : Nat} {l : List UInt8} {e : Nat} (h : Rp w g l e) (hb : Below w.heap.size w w') : Rp w' g l e := by
  obtain ⟨A, c, h0, h1, h2⟩ := h.ex
  exact ⟨⟨A, c, cell_below hb h0, h1.below hb, h2⟩, cell_below hb h.at1, fun j => (hb.frozen (p := ⟨g, j, none⟩) h.lt).trans (h.fr j)⟩
theorem only_setB (w : World) (p : Addr) (v : Value) : Only w (w.setCell p v) (fun k => k = p.block) := (Only.refl w (fun k => k = p.block)).setCell p v fun _ => rfl
theorem Rp.setE {w : World} {g : Nat} {l : List UInt8} {e : Nat} (h : Rp w g l e) (x : Nat) : Rp (w.setCell ⟨g, 1, none⟩ (.int .i64 (x : Int))) g l x := by
  obtain ⟨A, c, h0, h1, h2, h3, h4⟩ := h.ex
  have hne : (⟨g, 1, none⟩ : Addr) ≠ ⟨g, 0, none⟩ := by simp
  refine ⟨⟨A, c, by rw [World.cell?_setCell_other (h := hne)]; exact h0, h1.only (only_setB w ⟨g, 1, none⟩ _) (fun hn a ha e => ?_), h2, h3, h4⟩, World.cell?_setCell_same _ _ _ h.at1, fun j => by rw [World.frozen?_setCell]; exact h.fr j⟩
  have := h4 hn a ha
  have e : a.block = g := e
  omega
theorem Rp.setL {w : World} {g : Nat} {l r : List UInt8} {e : Nat} (h : Rp w g l e) (A : Option Addr) (n c : Nat) (hn : r.length = n) (hs : Seg w A n r) (hc : n ≤ c) (hm : c ≤ maxLen) (ha : 0 < n → ∀ a, A = some a → a.block < g) :
    Rp (w.setCell ⟨g, 0, none⟩ (.slice A n c)) g r e := by
  subst hn
  obtain ⟨A0, c0, h0, _⟩ := h.ex
  have hne : (⟨g, 0, none⟩ : Addr) ≠ ⟨g, 1, none⟩ := by simp
  refine ⟨⟨A, c, World.cell?_setCell_same _ _ _ h0, hs.only (only_setB w ⟨g, 0, none⟩ _) (fun hn a hA e => ?_), hc, hm, ha⟩, by rw [World.cell?_setCell_other (h := hne)]; exact h.at1, fun j => by rw [World.frozen?_setCell]; exact h.fr j⟩
  have := ha hn a hA
  have e : a.block = g := e
  omega
theorem Rp.drewN {w : World} {g : Nat} {l : List UInt8} {e : Nat} (h : Rp w g l e) (k : Nat) : Rp (w.drewN k) g l e := h.below ⟨rfl, rfl, rfl, Nat.le_refl _, fun _ _ => rfl⟩

/-- What 'take' answers: a piece of the bytes. -/
def TkP (w : World) (g : Nat) (t : List UInt8) (s : Rst) (en : Ending) (w' : World) : Prop :=
  ∃ A c, en = .returned (.slice A t.length c) ∧ Seg w' A t.length t ∧ t.length ≤ c ∧ c ≤ maxLen ∧ (0 < t.length → ∀ a, A = some a → a.block < g) ∧ Rp w' g s.1 s.2 ∧ Only w w' (fun k => k = g)

set_option maxHeartbeats 4000000 in
theorem ptake_any (g : Nat) (l : List UInt8) (e m : Nat) (w : World) (hr : Rp w g l e) (hm : m ≤ 1000000) (hl : l.length ≤ 1099511627776) :
    Calls Tryd.prog 111 #[.pointer (some ⟨g, 0, none⟩), .int .i64 (m : Int)] w (TkP w g (ptk (l, e) m).1 (ptk (l, e) m).2) := by
  obtain ⟨A, c, h0, h1, h2, h3, h4⟩ := hr.ex
  have ha := hr.at1
  have f0 := hr.fr 0
  have f1 := hr.fr 1
  unfold maxLen at h3
  by_cases he : e = 0
  · subst he
    by_cases hlt : l.length < m
    · rw [ptk_short hlt]
      have hlt' : (l.length : Int) < (m : Int) := by omega
      go_enter Tryd.func111, Tryd.ntmps111
      go_wp2
      go_ret
      refine ⟨none, 0, rfl, Seg.nil _ _, Nat.le_refl _, Nat.zero_le _, fun h => absurd h (by simp), ?_, ?_⟩
      · exact hr.setE 3
      · exact (Only.refl w (fun k => k = g)).setCell _ _ fun _ => rfl
    · rw [ptk_ok (by omega)]
      have hlt' : ¬ (l.length : Int) < (m : Int) := by omega
      obtain ⟨n, hn⟩ : ∃ n, l.length = n := ⟨_, rfl⟩
      rw [hn] at h0 h1 h2 h4 hlt' hlt hl
      obtain ⟨A2, hA2, hseg2⟩ : ∃ A2, (if c = m then A else Option.map (fun x => x.add m) A) = A2 ∧ (Seg w A2 (n - m) (l.drop m) ∧ (0 < n - m → ∀ a, A2 = some a → a.block < g)) := ⟨_, rfl, h1.fromA m c (by omega) h2, fun hp a e => by
        rw [if_neg (by omega)] at e
        obtain ⟨b, hb, e⟩ := Option.map_eq_some_iff.1 e
        have := h4 (by omega) b hb
        rw [← e]
        simp only [Addr.add]
        split
        · exact this
        · exact this⟩
      have HS2 := Lib.hid hseg2
      have HN := Lib.hid hn
      clear hseg2 hn
      go_enter Tryd.func111, Tryd.ntmps111
      go_wp2
      go_ret
      have hlm : (List.take m l).length = m := by rw [List.length_take]; have := HN.out; omega
      refine ⟨A, c, by rw [hlm]; rfl, ?_, by rw [hlm]; omega, by simp only [maxLen]; omega, fun hp => ?_, ?_, ?_⟩
      · rw [hlm]
        refine (h1.upto m (by omega)).only (only_setB w ⟨g, 0, none⟩ _) (fun hn a hA e => ?_)
        have := h4 (by omega) a hA
        have e : a.block = g := e
        omega
      · rw [hlm] at hp
        exact h4 (by omega)
      · exact hr.setL A2 (n - m) (c - m) (by rw [List.length_drop, HN.out]) HS2.out.1 (by omega) (by simp only [maxLen]; omega) HS2.out.2
      · exact (Only.refl w (fun k => k = g)).setCell _ _ fun _ => rfl
  · rw [ptk_err he]
    have hne : ((e : Int) == 0) = false := by simp; omega
    go_enter Tryd.func111, Tryd.ntmps111
    go_wp2
    go_ret
    exact ⟨none, 0, rfl, Seg.nil _ _, Nat.le_refl _, Nat.zero_le _, fun h => absurd h (by simp), hr, Only.refl w (fun k => k = g)⟩

end Go.Proofs.YtaanaoimnecenaaDoor
