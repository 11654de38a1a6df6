/- Clearing the end of a row of the call's own. No function of the program is named. -/
import Derived.Test.YtcpgodkgdceocaaGenB
namespace Go.Proofs.Ytcpgodkgdceocaa
open Go.RowKit

theorem run_clear_own {P : Program} (w : World) (t e ty : TypeId) (z : Value) (size base : Nat) (ht : P.underlying t = some (.slice e)) (hv : ∀ w, (zeroValue e).run P w = .ok z w) (hzs : z.cells.size = size) (h1 : ∀ u ∈ z.cells.toList, u.oneCell' = true)
    (g n cap m : Nat) (A : Addr) (xs : List Value) (hown : w.ownsRow base e size (.slice (some ⟨g, 0, none⟩) m cap) m xs) (hm : m ≤ n) (hn : n ≤ cap) (hA : m < n → A = ⟨g, m * size, none⟩) :
    ∃ w', (Builtin.clear_ #[t] ty #[.slice (some A) (n - m) (cap - m)]).run P w = .ok (.tuple #[]) w' ∧ w'.ownsRow base e size (.slice (some ⟨g, 0, none⟩) m cap) m xs ∧ w.grownBy w' (some g) := by
  by_cases hlt : m < n
  · rw [hA hlt]
    have hl := hown.1
    rcases hown.2 with ⟨h0, _⟩ | ⟨g', cap', cur, hv', hbg, hg, hnc, hcm, hcs, htake⟩
    · cases h0
    · cases hv'
      have hzl : (Builtin.zeroCells z.cells (n - m)).toList.length = (n - m) * size := by rw [Array.length_toList, size_zeroCells, hzs]
      have hfit : m * size + 0 + (Builtin.zeroCells z.cells (n - m)).toList.length ≤ cur.size := by
        rw [hzl, hcs, Nat.add_zero, ← Nat.add_mul]; exact Nat.mul_le_mul_right _ (by omega)
      have hone : ∀ u ∈ (Builtin.zeroCells z.cells (n - m)).toList, u.oneCell' = true := fun u hu => by
        rw [Array.mem_toList_iff] at hu
        unfold Builtin.zeroCells at hu
        obtain ⟨j, hj, rfl⟩ := Array.mem_iff_getElem.1 hu
        rw [Array.getElem_map, Array.getElem_range]
        have hp : 0 < z.cells.size := by
          rcases Nat.eq_zero_or_pos z.cells.size with h0 | h0
          · rw [Array.size_map, Array.size_range, h0, Nat.mul_zero] at hj; omega
          · exact h0
        have hlt2 := Nat.mod_lt j hp
        rw [getElem!_pos z.cells (j % z.cells.size) hlt2]
        exact h1 _ (by simp)
      have hst := run_storeCells_at P g (m * size) e (Builtin.zeroCells z.cells (n - m)).toList 0 cur w hg hfit hone
      obtain ⟨d, hd⟩ : ∃ d, n - m = d + 1 := ⟨n - m - 1, by omega⟩
      obtain ⟨row, hrow⟩ : ∃ r : Array Value, r = (cur.toList.take (m * size + 0) ++ (Builtin.zeroCells z.cells (n - m)).toList ++ cur.toList.drop (m * size + 0 + (Builtin.zeroCells z.cells (n - m)).toList.length)).toArray := ⟨_, rfl⟩
      rw [← hrow] at hst
      refine ⟨w.setRow g row, ?_, ⟨hl, .inr ⟨g, cap, row, rfl, hbg, setRow_heap w g cur _ e _ hg, hnc, hcm, ?_, ?_⟩⟩, ⟨rfl, rfl, rfl, by simp, fun k _ hk => setRow_other w g k _ (fun e => hk (by simp [e]))⟩⟩
      · rw [hd] at hst ⊢
        simp [Builtin.clear_, run_underlying ht, hv, hst]
      · rw [hrow]
        simp only [List.size_toArray, List.length_append, List.length_take, List.length_drop, Array.length_toList]
        rw [Array.length_toList] at hzl hfit
        rw [hzl] at hfit ⊢
        omega
      · rw [hrow]
        simp only [Nat.add_zero] at hfit ⊢
        rw [← htake]
        have : m * size ≤ cur.size := by rw [hcs]; exact Nat.mul_le_mul_right _ hnc
        rw [List.append_assoc, List.take_append_of_le_length (by rw [List.length_take, Array.length_toList]; omega), List.take_take, Nat.min_self]
  · have hd : n - m = 0 := by omega
    refine ⟨w, ?_, hown, ⟨rfl, rfl, rfl, Nat.le_refl _, fun _ _ _ => rfl⟩⟩
    rw [hd]
    simp [Builtin.clear_, run_underlying ht]
theorem wpList_clear_own {P : Program} {w : World} {ops : Array Oper} {rest : List Oper} {o : Oper} {a : Act} {Q : Exit → Act → World → Prop} (hgd : o.guard = none) (x : Operand) (t : TypeId)
    (ho : o.op = .call { callee := .builtin .clear, args := #[x], argTypes := #[t] })
    (e : TypeId) (z : Value) (size base : Nat) (ht : P.underlying t = some (.slice e)) (hv : ∀ w, (zeroValue e).run P w = .ok z w) (hzs : z.cells.size = size) (h1 : ∀ u ∈ z.cells.toList, u.oneCell' = true)
    (g n cap m : Nat) (A : Addr) (xs : List Value) (hx : a.eval x = .slice (some A) (n - m) (cap - m)) (hown : w.ownsRow base e size (.slice (some ⟨g, 0, none⟩) m cap) m xs) (hm : m ≤ n) (hn : n ≤ cap) (hA : m < n → A = ⟨g, m * size, none⟩)
    (h : ∀ w', w'.ownsRow base e size (.slice (some ⟨g, 0, none⟩) m cap) m xs → w.grownBy w' (some g) → wpList P ops Q rest (a.put o.dst (.tuple #[])) w') : wpList P ops Q (o :: rest) a w := by
  refine wpList_plain hgd fun K hK => ?_
  obtain ⟨w', hr, h2, h3⟩ := run_clear_own (P := P) w t e o.type z size base ht hv hzs h1 g n cap m A xs hown hm hn hA
  unfold Oper.wp execOp
  simp only [ho, resolve, invoke, builtin, Sem.run_bind, Sem.run_pure, Result.andThen_ok, List.map_toArray, List.map_cons, List.map_nil, hx, hr]
  exact hK _ _ (h w' h2 h3)
end Go.Proofs.Ytcpgodkgdceocaa
