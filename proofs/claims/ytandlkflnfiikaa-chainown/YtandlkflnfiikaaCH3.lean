/-
  A row of the call's own whose first elements are let go in place: append onto its own head, the tail cleared; slices.Delete of a chain's versions.
-/
import Derived.Test.YtandlkflnfiikaaCH2
import Derived.Deep.RegionLaw
import Derived.Laws.CopyRow
namespace Go.Proofs.Ytandlkflnfiikaa
open Go.RowKit

section
variable {P : Program} {α : Type} {Y : Lay α}
theorem run_append_in (w : World) (t ty e : TypeId) (zero : Value) (bytes : Nat) (hB : ElT P Y t e zero bytes) (base p N c : Nat) (l : List α) (hown : OwnG Y w base e (.slice (some ⟨p, 0, none⟩) N c) l) (k : Nat) (hk : k ≤ N)
    (a : Addr) (c' : Nat) (hr : SegG Y w (some a) (N - k) (l.drop k)) :
    ∃ w', (Builtin.append_ #[t, t] ty #[.slice (some ⟨p, 0, none⟩) 0 c, .slice (some a) (N - k) c']).run P w = .ok (.slice (some ⟨p, 0, none⟩) (N - k) c) w' ∧ OwnG Y w' base e (.slice (some ⟨p, 0, none⟩) (N - k) c) (l.drop k) ∧ w.grownBy w' (some p) := by
  obtain ⟨i, hi, hz0, hz1, hz2⟩ := info_parts hB.hi
  rcases hown.2 with ⟨hx, _⟩ | ⟨g, cap, cur, hx, hb, hg, hnc, hcm, hcs, ht⟩
  · cases hx
  · injection hx with hx1 hx2 hx3
    injection hx1 with hx1
    injection hx1 with hx1
    subst hx1 hx3
    obtain rfl : N = l.length := hx2
    have hlen : (cellsG Y (l.drop k)).length = (l.length - k) * i.size := by rw [cellsG_length, List.length_drop, hz1]
    have hnews : ∀ j u, (cellsG Y (l.drop k))[j]? = some u → w.cell? (a.add j) = some u := by
      intro j u hu
      have hpos : 0 < l.length - k := by
        have h1 := (List.getElem?_eq_some_iff.1 hu).1
        rw [hlen] at h1
        rcases Nat.eq_zero_or_pos (l.length - k) with h0 | h0
        · rw [h0, Nat.zero_mul] at h1
          omega
        · exact h0
      obtain ⟨g', o, ea, hc⟩ := hr.2 hpos
      injection ea with ea
      subst ea
      have := hc j u hu
      simp only [Addr.add]
      split
      · subst j; simpa using this
      · exact this
    have hfit : 0 * i.size + (cellsG Y (l.drop k)).length ≤ cur.size := by
      rw [hlen, hcs, Nat.zero_mul, Nat.zero_add, hz1]
      exact Nat.mul_le_mul_right _ (by omega)
    have hrun := run_append_room (P := P) w t ty e i hB.ht hi p 0 c cur hg a (l.length - k) c' (cellsG Y (l.drop k)) hlen hnews (cellsG_one Y _) (by omega) hfit
    simp only [Nat.zero_add, Nat.zero_mul, List.take_zero, List.nil_append] at hrun
    refine ⟨_, hrun, ⟨by rw [cellsG_length], .inr ⟨p, c, _, by rw [List.length_drop], hb, setRow_heap w p cur _ e _ hg, by rw [List.length_drop]; omega, hcm, ?_, ?_⟩⟩, ⟨rfl, rfl, rfl, by simp, fun b _ hb => setRow_other w p b _ (fun e => hb (by rw [e]))⟩⟩
    · simp only [List.size_toArray, List.length_append, List.length_drop, Array.length_toList]
      rw [Nat.zero_mul, Nat.zero_add] at hfit
      omega
    · rw [List.length_drop, ← hz1, ← hlen]
      exact List.take_left
theorem run_clear_own (w : World) (t ty e : TypeId) (zero : Value) (bytes : Nat) (hB : ElT P Y t e zero bytes) (hzv : ∀ w, (zeroValue e).run P w = .ok zero w) (hz1 : ∀ u ∈ zero.cells.toList, u.oneCell' = true) (base p n c : Nat) (l : List α)
    (hown : OwnG Y w base e (.slice (some ⟨p, 0, none⟩) n c) l) (m c' : Nat) (hm : 0 < m) (hnm : n + m ≤ c) :
    ∃ w', (Builtin.clear_ #[t] ty #[.slice (some ⟨p, n * Y.z, none⟩) m c']).run P w = .ok (.tuple #[]) w' ∧ OwnG Y w' base e (.slice (some ⟨p, 0, none⟩) n c) l ∧ w.grownBy w' (some p) := by
  rcases hown.2 with ⟨hx, _⟩ | ⟨g, cap, cur, hx, hb, hg, hnc, hcm, hcs, ht⟩
  · cases hx
  · injection hx with hx1 hx2 hx3
    injection hx1 with hx1
    injection hx1 with hx1
    subst hx1 hx3
    obtain rfl : n = l.length := hx2
    obtain ⟨zs, hzs⟩ : ∃ zs, (Builtin.zeroCells zero.cells m).toList = zs := ⟨_, rfl⟩
    have hlen : zs.length = m * Y.z := by rw [← hzs, Array.length_toList, size_zeroCells, hB.hz]
    have hone : ∀ u ∈ zs, u.oneCell' = true := by
      intro u hu
      rw [← hzs] at hu
      simp only [Builtin.zeroCells, Array.toList_map, List.mem_map] at hu
      obtain ⟨i, _, rfl⟩ := hu
      have hz := hB.hz
      have hp := Y.pos
      have hlt : i % zero.cells.size < zero.cells.size := Nat.mod_lt _ (by omega)
      rw [getElem!_pos zero.cells _ hlt]
      exact hz1 _ (by simp)
    have hfit : l.length * Y.z + 0 + zs.length ≤ cur.size := by
      rw [hlen, hcs, Nat.add_zero, ← Nat.add_mul]
      exact Nat.mul_le_mul_right _ hnm
    have hst := run_storeCells_at P p (l.length * Y.z) e zs 0 cur w hg hfit hone
    obtain ⟨m', rfl⟩ : ∃ m', m = m' + 1 := ⟨m - 1, by omega⟩
    refine ⟨w.setRow p (cur.toList.take (l.length * Y.z + 0) ++ zs ++ cur.toList.drop (l.length * Y.z + 0 + zs.length)).toArray, ?_, ⟨hown.1, .inr ⟨p, c, _, rfl, hb, setRow_heap w p cur _ e _ hg, hnc, hcm, ?_, ?_⟩⟩, ⟨rfl, rfl, rfl, by simp, fun b _ hb => setRow_other w p b _ (fun e => hb (by rw [e]))⟩⟩
    · simp [Builtin.clear_, run_underlying hB.ht, hzv, hzs, hst]
    · simp only [List.size_toArray, List.length_append, List.length_take, List.length_drop, Array.length_toList]
      omega
    · rw [Nat.add_zero]
      rw [Nat.add_zero] at hfit
      have h1 : l.length * Y.z ≤ (cur.toList.take (l.length * Y.z)).length := by
        have h2 : cur.toList.length = cur.size := Array.length_toList
        rw [List.length_take, h2]; omega
      rw [List.append_assoc, List.take_append_of_le_length h1, List.take_take, Nat.min_self]
      exact ht
theorem step_append_in (w : World) {ops : Array Oper} {o : Oper} {a : Act} {K : Act → World → Prop} {Q : Exit → Act → World → Prop} {E : Prop} (hgd : o.guard = none) (s x : Operand) (t e : TypeId) (zero : Value) (bytes : Nat) (hB : ElT P Y t e zero bytes)
    (ho : o.op = .call { callee := .builtin .append, args := #[s, x], argTypes := #[t, t] })
    (base p N c : Nat) (l : List α) (hs : a.eval s = .slice (some ⟨p, 0, none⟩) 0 c) (hown : OwnG Y w base e (.slice (some ⟨p, 0, none⟩) N c) l) (k : Nat) (hk : k ≤ N)
    (ad : Addr) (c' : Nat) (hx : a.eval x = .slice (some ad) (N - k) c') (hr : SegG Y w (some ad) (N - k) (l.drop k))
    (h : ∀ w', OwnG Y w' base e (.slice (some ⟨p, 0, none⟩) (N - k) c) (l.drop k) → w.grownBy w' (some p) → K (a.put o.dst (.slice (some ⟨p, 0, none⟩) (N - k) c)) w') :
    if Region.wanted o (yielded ops a.tmps) = true then Oper.wp P o a w K Q else E := by
  have hw : Region.wanted o (yielded ops a.tmps) = true := by simp [Region.wanted, hgd]
  rw [if_pos hw]
  obtain ⟨w', hrun, h2, h3⟩ := run_append_in (P := P) w t o.type e zero bytes hB base p N c l hown k hk ad c' hr
  unfold Oper.wp execOp
  simp only [ho, resolve, invoke, builtin, Sem.run_bind, Sem.run_pure, Result.andThen_ok, List.map_toArray, List.map_cons, List.map_nil, hs, hx, hrun]
  exact h w' h2 h3
end

theorem verT : ElT Try.prog verLay 52 59 (.agg #[.int .i64 0, .slice none 0 0, .bool false]) 40 := ⟨Try.underlying52, by kernel_rfl, rfl, by omega⟩

set_option maxHeartbeats 2000000 in
theorem delete_any {w : World} {base : Nat} {v : Value} {S : List VerS} (hown : OwnG verLay w base 59 v S) (k : Nat) (hk : k ≤ S.length) :
    Calls Try.prog 24 #[v, .int .i64 0, .int .i64 k] w fun e w' => ∃ v', e = .returned v' ∧ OwnG verLay w' base 59 v' (S.drop k) ∧ v'.ownBlock = v.ownBlock ∧ Only w w' (fun b => v.ownBlock = some b) := by
  obtain ⟨A, c, rfl, hsg, hlc, hcm⟩ := hown.forms
  have hcm' := hcm
  unfold maxLen at hcm'
  by_cases hz : k = 0
  · subst hz
    go_enter Try.func24, Try.ntmps24
    go_wp2
    all_goals (go_ret; exact ⟨_, rfl, hown, rfl, Only.refl _ _⟩)
  · obtain ⟨N, hN⟩ : ∃ N, S.length = N := ⟨_, rfl⟩
    have HN := Lib.hid hN
    rw [hN] at hown hsg hlc hk ⊢
    clear hN
    rcases hown.2 with ⟨hx, _⟩ | ⟨p, cap, cur, hx, hb, hg, hnc, _, hcs, ht⟩
    · injection hx with _ hx
      omega
    · injection hx with hx1 hx2 hx3
      subst hx1 hx3
      clear hb hg hcs ht hnc hx2 cur
      have hd : SegG verLay w.drew (if c = k then some ⟨p, 0, none⟩ else some ⟨p, k * 3, none⟩) (N - k) (S.drop k) := by
        have := hsg.from_ k c hk hlc
        rw [show 0 + k * verLay.z = k * 3 from Nat.zero_add _] at this
        exact this
      obtain ⟨ad, had⟩ : ∃ ad : Addr, (if c = k then some (⟨p, 0, none⟩ : Addr) else some ⟨p, k * 3, none⟩) = some ad := by
        by_cases h : c = k
        · exact ⟨_, by rw [if_pos h]⟩
        · exact ⟨_, by rw [if_neg h]⟩
      rw [had] at hd
      have HS := Lib.hid hd
      have HO := Lib.hid hown
      have hkc : k ≤ c := by omega
      clear hd hown hsg
      go_enter Try.func24, Try.ntmps24
      go_wp2
      go_region_law (refine step_append_in _ rfl (.tmp 22) (.tmp 25) _ _ _ _ verT rfl base p N c S (by go_simp) (HO.out.drewN 1) k hk ad (c - k) (by go_simp) HS.out ?_; intro w1 ho1 hg1)
      have hon : Only w w1 (fun b => (Value.slice (some (⟨p, 0, none⟩ : Addr)) N c).ownBlock = some b) := Only.of_grown (w := w) (row := some p) ⟨hg1.os, hg1.tape, hg1.output, hg1.size, hg1.block⟩ fun b hb => hb
      obtain ⟨M, hM⟩ : ∃ M, N - k = M := ⟨_, rfl⟩
      rw [hM] at ho1 ⊢
      have hMN : M < N := by omega
      have hMc : ¬ c = M := by omega
      have d1 : ((N : Int) - (M : Int)).toNat = N - M := by omega
      clear HS HO had
      obtain ⟨w2, hcl, ho2, hg2⟩ := run_clear_own (P := Try.prog) w1 52 0 59 _ _ verT (fun w => by kernel_rfl) (by simp [Value.cells, Value.oneCell']) base p M c (S.drop k) ho1 (N - M) (c - M) (by omega) (by omega)
      rw [show M * verLay.z = M * 3 from rfl] at hcl
      go_wp2
      go_ret
      exact ⟨_, rfl, ho2, rfl, hon.trans (Only.of_grown (S := fun b => (Value.slice (some (⟨p, 0, none⟩ : Addr)) N c).ownBlock = some b) hg2 fun b hb => hb) fun _ _ h => h⟩

end Go.Proofs.Ytandlkflnfiikaa
